"""Things and held names: deeds on them, and what is told of them."""

from livehall.errors import BadName, BadValue, NoField, NoName, NoThing, Same
from livehall.frames import Run, change_frames
from livehall.lines import kind_number, line_fields
from livehall.values import is_name, is_plain_value, is_whole


def is_there(store, thing):
    """Whether it is a thing that is in the hall."""
    if not isinstance(thing, tuple) or len(thing) != 2:
        return False
    return thing[0] == "thing" and is_whole(thing[1]) and thing[1] in store.thing_rows


def check_value(store, value):
    if not is_plain_value(value) and not is_there(store, value):
        raise BadValue("this is no value, or a thing that is not there")


def thing_number(store, thing):
    """The number of a thing that is in the hall."""
    if not is_there(store, thing):
        raise NoThing("there is no such thing")
    return thing[1]


def fields_with(store, thing, field):
    """All fields of a thing, if this is one of them."""
    fields = store.thing_rows[thing_number(store, thing)][1]
    if not isinstance(field, str) or field not in fields:
        raise NoField(field)
    return fields


def new_thing(store, kind):
    """A new thing of the kind of this number."""
    number = store.new_number("thing")
    store.write("thing", number, (kind, {field: None for field in line_fields(store, kind)}))
    return ("thing", number)


def write_field(store, number, field, value):
    """The field of the thing of this number has the value."""
    kind, had = store.thing_rows[number]
    fields = dict(had)
    fields[field] = value
    store.write("thing", number, (kind, fields))


def make(store, kind):
    return new_thing(store, kind_number(store, kind))


def put(store, thing, field, value):
    fields_with(store, thing, field)
    check_value(store, value)
    write_field(store, thing[1], field, value)


def hold(store, name, value):
    if not is_name(name):
        raise BadName(name)
    check_value(store, value)
    store.write("held", name, (value,))


def let_go(store, name):
    if not isinstance(name, str) or name not in store.held_rows:
        raise NoName(name)
    store.write("held", name, None)


def leads(value, others):
    """Whether the value is a thing of which others tells."""
    return isinstance(value, tuple) and value[1] in others


def led(value, others):
    """Where now leads what led to the value: others has numbers of things for numbers of things."""
    return ("thing", others[value[1]]) if leads(value, others) else value


def lead_fields(store, others):
    for number in list(store.thing_rows):
        kind, fields = store.thing_rows[number]
        if any([leads(value, others) for value in fields.values()]):
            store.write("thing", number, (kind, {field: led(fields[field], others) for field in fields}))


def lead_names(store, others):
    for name in list(store.held_rows):
        store.write("held", name, (led(store.held_rows[name][0], others),))


def lead_runs(store, others):
    def change(frame):
        frame.asked = led(frame.asked, others)
        frame.given = tuple([led(value, others) for value in frame.given])
        frame.names = {name: led(frame.names[name], others) for name in frame.names}
        frame.work = [led(value, others) for value in frame.work]

    change_frames(store, change)
    for number in list(store.run_rows):
        outcome = store.run_rows[number].outcome
        if outcome is not None:
            store.write("run", number, Run(None, (outcome[0], led(outcome[1], others))))


def lead_elsewhere(store, others):
    """Lets all that leads to things lead to the others from now on."""
    lead_fields(store, others)
    lead_names(store, others)
    lead_runs(store, others)


def swap(store, one, other):
    first = thing_number(store, one)
    second = thing_number(store, other)
    lead_elsewhere(store, {first: second, second: first})


def forward(store, one, other):
    first = thing_number(store, one)
    second = thing_number(store, other)
    if first == second:
        raise Same("both things are one")
    lead_elsewhere(store, {first: second})
    store.write("thing", first, None)


def kind_told(store, thing):
    """The name of the kind of a thing."""
    return store.kind_rows[store.thing_rows[thing_number(store, thing)][0]].name


def field_told(store, thing, field):
    return fields_with(store, thing, field)[field]


def held_told(store):
    return tuple([(name, store.held_rows[name][0]) for name in sorted(store.held_rows)])


THING_DEEDS = {
    "make": make,
    "put": put,
    "hold": hold,
    "let_go": let_go,
    "swap": swap,
    "forward": forward,
}
