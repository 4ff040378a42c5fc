"""What names and values are."""

NAME_LETTERS = 12
TEXT_SIGNS = 40


def all_between(text, low, high):
    return all([low <= sign <= high for sign in text])


def is_name(thing):
    """Whether it is a text of 1 to 12 letters a to z."""
    return isinstance(thing, str) and 1 <= len(thing) <= NAME_LETTERS and all_between(thing, "a", "z")


def is_short_text(thing):
    """Whether it is a text of up to 40 signs from the blank to `~`."""
    return isinstance(thing, str) and len(thing) <= TEXT_SIGNS and all_between(thing, " ", "~")


def is_plain_value(thing):
    """Whether it is a value that is no thing of a hall: a whole number, a truth, None or a text."""
    return thing is None or isinstance(thing, (bool, int)) or is_short_text(thing)
