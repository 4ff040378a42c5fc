"""Deeds on kinds: they are made, reshaped, moved, renamed and dropped while things live and ways run."""

from livehall.bodies import kinds_in, leaves_in, renamed
from livehall.errors import BadField, BadName, Fixed, InUse, Known, NoField, Ring
from livehall.frames import change_frames, chain, halted_runs
from livehall.lines import (
    heir_numbers, kind_number, line_fields, line_numbers, numbers_below, own_fields, things_of,
)
from livehall.steps import Way
from livehall.store import Kind
from livehall.values import is_name


def check_new_name(store, name):
    if not is_name(name):
        raise BadName(name)
    if name in store.kind_numbers:
        raise Known(name)


def check_own_fields(fields, weak, others):
    """Refuses fields of a new kind whose elders have others."""
    for field in fields:
        if not is_name(field) or fields.count(field) > 1 or field in others:
            raise BadField(field)
    for field in weak:
        if field not in fields:
            raise BadField(field)


def make_kind(store, name, elder, fields, weak):
    check_new_name(store, name)
    above = kind_number(store, elder)
    check_own_fields(fields, weak, line_fields(store, above))
    number = store.new_number("kind")
    own_weak = tuple([field for field in fields if field in weak])
    store.write("kind name", name, number)
    store.write("kind", number, Kind(name, above, tuple(fields), own_weak, {}))


def check_gone(own, gone):
    """Refuses fields to drop or rename that are not its own, or stand there twice."""
    for field in gone:
        if field not in own or gone.count(field) > 1:
            raise NoField(field)


def check_come(own, come, others):
    """Refuses fields that come, if own is what its fields would be, and its elders and heirs have others."""
    for field in come:
        if not is_name(field) or own.count(field) > 1 or field in others:
            raise BadField(field)


def refit(store, numbers, sources):
    """Gives the things of these kinds the fields that their kinds have now.

    A field has what it had, or what the one had that sources tells of; None, where the thing had no such.
    """
    fields = {number: line_fields(store, number) for number in numbers}
    for thing in things_of(store, numbers):
        kind, had = store.thing_rows[thing]
        has = {field: had.get(sources.get(field, field)) for field in fields[kind]}
        store.write("thing", thing, (kind, has))


def renamed_way(way, sort, names, known):
    """The way with names of fields or kinds exchanged; known keeps it, as many frames may share a way."""
    if way not in known:
        meant = [leaf for leaf in leaves_in(way.body, sort) if leaf in names]
        known[way] = Way(way.names, renamed(way.body, sort, names)) if meant else way
    return known[way]


def rename_in_kinds(store, numbers, sort, names, known):
    for number in numbers:
        kind = store.kind_rows[number]
        ways = {word: renamed_way(kind.ways[word], sort, names, known) for word in kind.ways}
        store.write("kind", number, Kind(kind.name, kind.elder, kind.own, kind.weak, ways))


def rename_fields(store, numbers, names):
    """Exchanges names of fields in the ways that stand in these kinds, those that run too."""
    known = {}
    standing = {number: True for number in numbers}

    def change(frame):
        if frame.kind in standing:
            frame.way = renamed_way(frame.way, "field", names, known)

    rename_in_kinds(store, numbers, "field", names, known)
    change_frames(store, change)


def rename_made(store, names):
    """Exchanges names of kinds in all ways, those that run too, even if they stand in a kind that is gone."""
    known = {}

    def change(frame):
        frame.way = renamed_way(frame.way, "kind", names, known)

    rename_in_kinds(store, sorted(store.kind_rows), "kind", names, known)
    change_frames(store, change)


def reshape(store, kind, add, drop, rename):
    number = kind_number(store, kind)
    row = store.kind_rows[number]
    check_gone(row.own, list(drop) + [pair[0] for pair in rename])
    names = {old: new for old, new in rename}
    own = [names.get(field, field) for field in row.own if field not in drop] + list(add)
    family = numbers_below(store, number)
    others = line_fields(store, row.elder) + own_fields(store, family[1:])
    check_come(own, list(add) + [pair[1] for pair in rename], others)
    weak = [names.get(field, field) for field in row.weak if field not in drop]
    store.write("kind", number, Kind(row.name, row.elder, tuple(own), tuple(weak), row.ways))
    sources = {new: old for old, new in rename}
    # Nothing is called None, so what is added finds nothing that it had.
    sources.update({field: None for field in add})
    refit(store, family, sources)
    if names:
        rename_fields(store, family, names)


def move_kind(store, kind, elder):
    number = kind_number(store, kind)
    above = kind_number(store, elder)
    if number == 0:
        raise Fixed("the kind thing has no elder")
    if number in line_numbers(store, above):
        raise Ring("the elder would be below the kind")
    family = numbers_below(store, number)
    own = own_fields(store, family)
    for field in line_fields(store, above):
        if field in own:
            raise BadField(field)
    row = store.kind_rows[number]
    store.write("kind", number, Kind(row.name, above, row.own, row.weak, row.ways))
    refit(store, family, {})


def rename_kind(store, kind, name):
    number = kind_number(store, kind)
    if number == 0:
        raise Fixed("the kind thing keeps its name")
    check_new_name(store, name)
    row = store.kind_rows[number]
    store.write("kind name", kind, None)
    store.write("kind name", name, number)
    store.write("kind", number, Kind(name, row.elder, row.own, row.weak, row.ways))
    rename_made(store, {kind: name})


def is_made(store, name):
    """Whether a way of any kind, or one that runs, makes things of the kind of this name."""
    ways = {way: True for row in store.kind_rows.values() for way in row.ways.values()}
    for number, run in halted_runs(store):
        ways.update({frame.way: True for frame in chain(run.top)})
    return any([name in kinds_in(way.body) for way in ways])


def drop_kind(store, kind):
    number = kind_number(store, kind)
    if number == 0:
        raise Fixed("the kind thing stays")
    if heir_numbers(store, number) or things_of(store, [number]) or is_made(store, kind):
        raise InUse("the kind has heirs or things, or a way makes them")
    store.write("kind name", kind, None)
    store.write("kind", number, None)


KIND_DEEDS = {
    "make_kind": make_kind,
    "reshape": reshape,
    "move_kind": move_kind,
    "rename_kind": rename_kind,
    "drop_kind": drop_kind,
}
