"""What names and values are."""

NAME_LETTERS = 12
TEXT_SIGNS = 40


def all_between(text, low, high):
    return all([low <= sign <= high for sign in text])


def is_name(thing):
    """Whether it is a text of 1 to 12 letters a to z."""
    return isinstance(thing, str) and 1 <= len(thing) <= NAME_LETTERS and all_between(thing, "a", "z")


def is_short_text(thing):
    """Whether it is a text of up to 40 signs from the blank to `~`."""
    return isinstance(thing, str) and len(thing) <= TEXT_SIGNS and all_between(thing, " ", "~")


def is_plain_value(thing):
    """Whether it is a value that is no thing of a hall: a whole number, a truth, None or a text."""
    return thing is None or isinstance(thing, (bool, int)) or is_short_text(thing)


def is_whole(thing):
    """Whether it is a whole number; truths are none."""
    return isinstance(thing, int) and not isinstance(thing, bool)


def same_leaf(one, other):
    """Whether two things without parts are equal; a truth is no whole number."""
    return isinstance(one, bool) == isinstance(other, bool) and one == other


def same(one, other):
    """Whether two things are equal part by part, however deep; a truth is no whole number."""
    # Python's own comparison takes True for 1, and calls itself for each tuple in a tuple.
    waiting = [(one, other)]
    while waiting:
        left, right = waiting.pop()
        if isinstance(left, tuple) and isinstance(right, tuple) and len(left) == len(right):
            waiting.extend(list(zip(left, right)))
        elif isinstance(left, tuple) or isinstance(right, tuple) or not same_leaf(left, right):
            return False
    return True
