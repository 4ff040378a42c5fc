"""Ways of kinds: deeds on them, and what is told of them."""

from livehall.bodies import asked_in, asked_of_self, is_body, kinds_in
from livehall.errors import BadBody, BadName, NoKind, NoWay
from livehall.lines import finder, kind_number, line_numbers
from livehall.steps import Way
from livehall.store import Kind
from livehall.values import is_name


def write_ways(store, number, ways):
    row = store.kind_rows[number]
    store.write("kind", number, Kind(row.name, row.elder, row.own, row.weak, ways))


def check_way(store, word, body, names):
    """Refuses what cannot be a way."""
    if not is_name(word):
        raise BadName(word)
    for name in names:
        if not is_name(name) or names.count(name) > 1:
            raise BadName(name)
    if not is_body(body):
        raise BadBody("this is no body")
    for kind in kinds_in(body):
        if kind not in store.kind_numbers:
            raise NoKind(kind)


def set_way(store, kind, word, body, names):
    number = kind_number(store, kind)
    check_way(store, word, body, names)
    ways = dict(store.kind_rows[number].ways)
    ways[word] = Way(names, body)
    write_ways(store, number, ways)


def own_way(store, number, word):
    """The kind's own way of this word."""
    ways = store.kind_rows[number].ways
    if not isinstance(word, str) or word not in ways:
        raise NoWay("the kind has no way of this word")
    return ways[word]


def drop_way(store, kind, word):
    number = kind_number(store, kind)
    own_way(store, number, word)
    ways = dict(store.kind_rows[number].ways)
    del ways[word]
    write_ways(store, number, ways)


def way_told(store, kind, word):
    """The names and the body of the kind's own way."""
    way = own_way(store, kind_number(store, kind), word)
    return way.names, way.body


def found_kind(store, kind, word):
    """The name of the first kind of the line that has a way of this word; None."""
    number = kind_number(store, kind)
    finding = finder(store, number, word) if isinstance(word, str) else None
    return None if finding is None else store.kind_rows[finding].name


def found_words(store, kind):
    """All words for which a way is found, rising."""
    numbers = line_numbers(store, kind_number(store, kind))
    return tuple(sorted({word for number in numbers for word in store.kind_rows[number].ways}))


def asking_ways(store, word):
    """Rising pairs of kind and word of all ways that ask this word."""
    pairs = []
    for row in store.kind_rows.values():
        pairs.extend([(row.name, own) for own in row.ways if word in asked_in(row.ways[own].body)])
    return tuple(sorted(pairs))


def unheard_words(store, kind):
    """The words that the kind's own ways ask of self, and that are not found, rising."""
    number = kind_number(store, kind)
    ways = store.kind_rows[number].ways
    asked = [word for own in ways for word in asked_of_self(ways[own].body)]
    return tuple(sorted({word for word in asked if finder(store, number, word) is None}))


WAY_DEEDS = {"set_way": set_way, "drop_way": drop_way}
