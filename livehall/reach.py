"""What leads to things: paths, what a thing alone keeps, and sweeping."""

from livehall.frames import run_values
from livehall.lines import line_fields, line_weak
from livehall.things import leads, thing_number, write_field


def led_number(value):
    """The number of the thing that the value is; None if it is none."""
    return value[1] if isinstance(value, tuple) else None


def roots(store):
    """What leads to things from outside of things, each as (first part of a path, number of the thing)."""
    found = []
    for name in sorted(store.held_rows):
        found.append((("held", name), led_number(store.held_rows[name][0])))
    for run in sorted(store.run_rows):
        values = [value for value in run_values(store.run_rows[run]) if isinstance(value, tuple)]
        found.extend([(("run", run, value), value[1]) for value in values])
    return [(first, number) for first, number in found if number is not None]


def leading_fields(store):
    """For each kind the fields that lead to what they have: all but weak ones."""
    leading = {}
    for kind in store.kind_rows:
        weak = line_weak(store, kind)
        leading[kind] = [field for field in line_fields(store, kind) if field not in weak]
    return leading


def steps_from(store, leading, number):
    """What leads from a thing to things, each as (field, number of the thing)."""
    kind, fields = store.thing_rows[number]
    found = [(field, led_number(fields[field])) for field in leading[kind]]
    return [(field, other) for field, other in found if other is not None]


def reached(store, barred):
    """For each thing that is reached, if nothing leads to the barred one, what leads to it by the fewest parts.

    Told is (part of the path, number of the thing before it), None for the number where the path begins.
    """
    leading = leading_fields(store)
    came = {}
    ring = [(first, None, number) for first, number in roots(store)]
    while ring:
        outer = []
        for part, before, number in ring:
            if number != barred and number not in came:
                came[number] = (part, before)
                outer.extend([(field, number, other) for field, other in steps_from(store, leading, number)])
        ring = outer
    return came


def shortest_path(store, thing):
    """One of the shortest ways by which something leads to the thing; None if nothing does."""
    number = thing_number(store, thing)
    came = reached(store, None)
    if number not in came:
        return None
    path = []
    while number is not None:
        part, number = came[number]
        path.append(part)
    return tuple(path[::-1])


def kept_by(store, thing):
    """The thing, and all to which nothing would lead without it, as numbers, rising."""
    number = thing_number(store, thing)
    without = reached(store, number)
    return tuple([kept for kept in sorted(reached(store, None)) if kept not in without])


def sweep(store):
    came = reached(store, None)
    gone = {number: True for number in sorted(store.thing_rows) if number not in came}
    for number in gone:
        store.write("thing", number, None)
    for number in list(store.thing_rows):
        fields = store.thing_rows[number][1]
        for field in fields:
            if leads(fields[field], gone):
                write_field(store, number, field, None)
    return tuple(gone)


SWEEP_DEEDS = {"sweep": sweep}
