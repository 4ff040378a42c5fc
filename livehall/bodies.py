"""Bodies: what ways do, as tuples of rows.

Every part of a body is of a sort: body, row, e, es, or one of those that have no parts of their own.
Bodies may be deeper than Python can call, so they are walked with a list of parts that still wait.
"""

from livehall.values import is_name, is_plain_value

ROWS = {
    "do": ("e",),
    "let": ("name", "e"),
    "put": ("field", "e"),
    "give": ("e",),
    "when": ("e", "body", "body"),
    "while": ("e", "body"),
    "raise": ("e",),
    "try": ("body", "name", "body"),
}

ES = {
    "value": ("value",),
    "self": (),
    "name": ("name",),
    "field": ("field",),
    "ask": ("e", "word", "es"),
    "elder": ("word", "es"),
    "new": ("kind",),
    "same": ("e", "e"),
    "add": ("e", "e"),
    "sub": ("e", "e"),
    "mul": ("e", "e"),
    "under": ("e", "e"),
}

MANY = {"body": "row", "es": "e"}

LEAVES = ("name", "field", "word", "kind", "value")


def is_leaf(sort, thing):
    """Whether the thing may stand where a leaf of this sort must."""
    return is_plain_value(thing) if sort == "value" else is_name(thing)


def shape_of(sort, word):
    """The sorts of the parts behind the word of a row or an e; None if there is no such word."""
    # A deep tuple cannot be hashed and a list never can, so only texts are looked up.
    if not isinstance(word, str):
        return None
    return ROWS.get(word) if sort == "row" else ES.get(word)


def parts_of(sort, thing):
    """The parts of what is no leaf, each as (sort, part); None if it has not the form of its sort."""
    if not isinstance(thing, tuple):
        return None
    if sort in MANY:
        return [(MANY[sort], part) for part in thing]
    shape = shape_of(sort, thing[0]) if len(thing) > 0 else None
    if shape is None or len(shape) != len(thing) - 1:
        return None
    return list(zip(shape, thing[1:]))


def is_body(thing):
    """Whether any thing is a body."""
    waiting = [("body", thing)]
    while waiting:
        sort, part = waiting.pop()
        if sort in LEAVES:
            if not is_leaf(sort, part):
                return False
        else:
            parts = parts_of(sort, part)
            if parts is None:
                return False
            waiting.extend(parts)
    return True


def parts_in(body):
    """All parts of a body, itself too, each as (sort, part)."""
    met = []
    waiting = [("body", body)]
    while waiting:
        sort, part = waiting.pop()
        met.append((sort, part))
        if sort not in LEAVES:
            waiting.extend(parts_of(sort, part))
    return met


def leaves_in(body, wanted):
    """All leaves of the wanted sort in a body, rising, each once."""
    return tuple(sorted({part for sort, part in parts_in(body) if sort == wanted}))


def kinds_in(body):
    """The kinds of which the body makes things, rising, each once."""
    return leaves_in(body, "kind")


def asked_in(body):
    """The words that the body asks, by elder too, rising, each once."""
    return leaves_in(body, "word")


def asked_of_self(body):
    """The words that the body asks with `("self",)` as the asked."""
    es = [part for sort, part in parts_in(body) if sort == "e"]
    return [e[2] for e in es if e[0] == "ask" and e[1][0] == "self"]


def renamed(body, wanted, names):
    """The body, its leaves of the wanted sort being called as names tells, where it tells of them."""
    built = []
    waiting = [("body", body)]
    while waiting:
        sort, part = waiting.pop()
        if sort == "close":
            joined = tuple(built[len(built) - part:])
            del built[len(built) - part:]
            built.append(joined)
        elif sort == wanted:
            built.append(names.get(part, part))
        elif sort in LEAVES or sort == "head":
            built.append(part)
        else:
            head = [] if sort in MANY else [("head", part[0])]
            waiting.append(("close", len(part)))
            waiting.extend((head + parts_of(sort, part))[::-1])
    return built[0]
