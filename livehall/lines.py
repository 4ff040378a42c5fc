"""What is told of kinds: their lines, heirs, fields and where ways are found."""

from livehall.errors import NoKind


def kind_number(store, name):
    """The number of the kind of this name."""
    # What is no text may be a list or a deep tuple, which cannot be looked up.
    if not isinstance(name, str) or name not in store.kind_numbers:
        raise NoKind(name)
    return store.kind_numbers[name]


def kind_name(store, number):
    """The name of a kind; None if it is gone, or there was none."""
    return store.kind_rows[number].name if number in store.kind_rows else None


def kind_names(store, numbers):
    return tuple([store.kind_rows[number].name for number in numbers])


def line_numbers(store, number):
    """The kind, its elder, and so on; none for None."""
    numbers = []
    while number is not None:
        numbers.append(number)
        number = store.kind_rows[number].elder
    return numbers


def heirs_by_elder(store):
    """For each kind that has any, its heirs, as they were made."""
    families = {}
    for number in sorted(store.kind_rows):
        families.setdefault(store.kind_rows[number].elder, []).append(number)
    return families


def heir_numbers(store, number):
    return heirs_by_elder(store).get(number, [])


def numbers_below(store, number):
    """The kind and its heirs down to the last."""
    families = heirs_by_elder(store)
    numbers = []
    waiting = [number]
    while waiting:
        kind = waiting.pop()
        numbers.append(kind)
        waiting.extend(families.get(kind, []))
    return numbers


def line_fields(store, number):
    """The fields of all the line, those of `thing` first; none for None."""
    fields = []
    for kind in line_numbers(store, number)[::-1]:
        fields.extend(store.kind_rows[kind].own)
    return fields


def line_weak(store, number):
    """Those of the fields of all the line that are weak, in that order."""
    fields = []
    for kind in line_numbers(store, number)[::-1]:
        fields.extend(store.kind_rows[kind].weak)
    return fields


def own_fields(store, numbers):
    """The own fields of all these kinds."""
    return [field for number in numbers for field in store.kind_rows[number].own]


def finder(store, number, word):
    """The first kind, from this one on up its line, that has a way of this word; None."""
    for kind in line_numbers(store, number):
        if word in store.kind_rows[kind].ways:
            return kind
    return None


def things_of(store, numbers):
    """The things of these kinds, as numbers, rising."""
    wanted = {number: True for number in numbers}
    return [thing for thing in sorted(store.thing_rows) if store.thing_rows[thing][0] in wanted]
