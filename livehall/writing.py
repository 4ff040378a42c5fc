"""Writings: things and halls as texts, and back."""

from livehall.deeds import is_deed
from livehall.errors import HallError, NoText
from livehall.halls import Hall
from livehall.values import is_short_text

# Python turns only so many figures at once into a number or back.
PIECE = 60
PIECE_SIZE = 10 ** 60

FIGURES = "0123456789"
MARKS = {"T": True, "F": False, "N": None}


def number_text(number):
    """The figures of a whole number, with `-` ahead if it is below 0."""
    pieces = []
    rest = abs(number)
    while rest >= PIECE_SIZE:
        rest, piece = divmod(rest, PIECE_SIZE)
        pieces.append(str(piece).zfill(PIECE))
    pieces.append(str(rest))
    return ("-" if number < 0 else "") + "".join(pieces[::-1])


def quoted(text):
    escaped = text.replace("\\", "\\\\").replace("'", "\\'")
    return f"'{escaped}'"


def leaf_text(thing):
    """The writing of what is no tuple."""
    if thing is None:
        return "N"
    if isinstance(thing, bool):
        return "T" if thing else "F"
    return quoted(thing) if isinstance(thing, str) else number_text(thing)


def thing_text(thing):
    """The writing of a value, or of a tuple of such, however deep."""
    written = []
    waiting = [("part", thing)]
    while waiting:
        sort, part = waiting.pop()
        if sort == "sign":
            written.append(part)
        elif isinstance(part, tuple):
            waiting.append(("sign", ")"))
            for at in reversed(range(len(part))):
                waiting.append(("part", part[at]))
                waiting.append(("sign", " " if at > 0 else "("))
            if not part:
                waiting.append(("sign", "("))
        else:
            written.append(leaf_text(part))
    return "".join(written)


def number_of(figures):
    """The number that figures tell, however many."""
    first = len(figures) - len(figures) // PIECE * PIECE
    number = int(figures[:first]) if first > 0 else 0
    for at in range(first, len(figures), PIECE):
        number = number * PIECE_SIZE + int(figures[at:at + PIECE])
    return number


def read_number(text, at):
    """The whole number that is written there, and the place behind it."""
    begin = at + 1 if text[at] == "-" else at
    behind = begin
    while behind < len(text) and text[behind] in FIGURES:
        behind += 1
    figures = text[begin:behind]
    if figures == "" or (figures[0] == "0" and text[at:behind] != "0"):
        raise NoText("this is no whole number")
    number = number_of(figures)
    return (-number if begin > at else number), behind


def read_quoted(text, at):
    """The text that is written there, and the place behind it."""
    signs = []
    at += 1
    while at < len(text) and text[at] != "'":
        if text[at] == "\\":
            at += 1
            if text[at:at + 1] not in ("\\", "'"):
                raise NoText("a backslash stands ahead of another sign")
        signs.append(text[at])
        at += 1
    read = "".join(signs)
    if at >= len(text) or not is_short_text(read):
        raise NoText("this is no text of a value")
    return read, at + 1


def read_leaf(text, at):
    """What is written there, if it is no tuple with parts, and the place behind it."""
    sign = text[at:at + 1]
    if sign == "'":
        return read_quoted(text, at)
    if text[at:at + 2] == "()":
        return (), at + 2
    if sign in MARKS:
        return MARKS[sign], at + 1
    if sign == "" or sign not in "-" + FIGURES:
        raise NoText("nothing is written like this")
    return read_number(text, at)


def close_parts(text, at, part, around):
    """Puts the part that was read into the tuples around it, and closes those that end there.

    Told is what was read, the place behind it, and whether another part follows.
    """
    while around:
        around[-1].append(part)
        sign = text[at:at + 1]
        at += 1
        if sign == " ":
            return part, at, True
        if sign != ")":
            raise NoText("a blank or a bracket is missing")
        part = tuple(around.pop())
    return part, at, False


def read_thing(text):
    """The thing of which the text is the writing."""
    around = []
    part, at, more = None, 0, True
    while more:
        while text[at:at + 1] == "(" and text[at:at + 2] != "()":
            around.append([])
            at += 1
        part, at = read_leaf(text, at)
        part, at, more = close_parts(text, at, part, around)
    if at != len(text):
        raise NoText("something stands behind the writing")
    return part


def hall_text(hall):
    """The writing of a hall: its deeds, then those that can be done again."""
    lines = [thing_text(deed) for deed in hall.deeds()] + ["?" + thing_text(deed) for deed in hall.undone()]
    return "".join([line + "\n" for line in lines])


def read_deed(hall, line):
    """Does the deed that the line tells."""
    deed = read_thing(line)
    if not is_deed(deed):
        raise NoText("this is no deed")
    try:
        hall.together((deed,))
    except HallError:
        raise NoText("this deed cannot be done there") from None


def read_hall(text):
    """The hall of which the text is the writing."""
    lines = text.split("\n")
    if lines.pop() != "":
        raise NoText("there is no line feed behind the last line")
    hall = Hall()
    many_undone = 0
    for line in lines:
        if line.startswith("?"):
            many_undone += 1
        elif many_undone > 0:
            raise NoText("a deed that was done stands behind one that was taken back")
        read_deed(hall, line.removeprefix("?"))
    for at in range(many_undone):
        hall.back()
    return hall
