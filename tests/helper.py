"""What several tests need: all that can be told of a hall, parts of bodies, and a plain hall, written another way.

The plain hall does what the document tells as simply as can be: ways run as Python's own generators, what is taken
back is forgotten by doing all other deeds anew, and things are led to by handles that are turned elsewhere.
"""

import unittest

from livehall import errors
from livehall.bodies import asked_in, is_body, kinds_in
from livehall.halls import Hall
from livehall.writing import hall_text

ME = ("self",)
HALTED = ("halted",)

# What is a name, a kind, a word or a field nowhere.
NO_NAMES = ["", "Box", "box1", "a b", "a" * 13, 5, True, None, (), ("box",), ["box"], ("thing", 0)]
# What is no value, whatever things there are up to the number 90.
NO_VALUES = [(), (1,), [1], "a" * 41, "a\nb", "\t", "\u00e9", ("thing",), ("thing", 99), ("thing", True), ("thing", "0"),
             ("thing", 0, 0), ["thing", 0], ("Thing", 0), ("thing", (0,)), ("thing", -1), ("thing", None)]
# What is no thing, whatever things there are up to the number 90.
NO_THINGS = NO_VALUES + [0, 1, None, True, "thing"]


def val(value):
    return ("value", value)


def name(text):
    return ("name", text)


def field(text):
    return ("field", text)


def ask(asked, word, *es):
    return ("ask", asked, word, es)


def elder(word, *es):
    return ("elder", word, es)


def deep_tuple(depth=20000):
    """A tuple far deeper than Python can call."""
    thing = ()
    for _ in range(depth):
        thing = (thing,)
    return thing


class HallTest(unittest.TestCase):
    """A test with a new hall."""

    def setUp(self):
        self.hall = Hall()

    def same(self, told, wanted):
        self.assertEqual(strict(told), strict(wanted))

    def refused(self, error, refused, action, *values, **more):
        """That the action is refused with this error and field, and that all that can be told is as it was."""
        before, text = all_told(self.hall), hall_text(self.hall)
        with self.assertRaises(errors.HallError) as caught:
            action(*values, **more)
        self.assertIs(type(caught.exception), error)
        for kind in ("name", "field"):
            if hasattr(caught.exception, kind):
                self.assertIs(getattr(caught.exception, kind), refused)
        self.assertEqual(all_told(self.hall), before)
        self.assertEqual(hall_text(self.hall), text)

    def way(self, kind, word, *rows, names=()):
        self.hall.set_way(kind, word, rows, names=names)

    def start(self, *rows, kind="box", names=(), values=(), word="act"):
        """A run of a new way, halted behind its first ask where the way itself begins; told are run and thing."""
        self.hall.set_way(kind, word, rows, names=names)
        thing = self.hall.make(kind)
        return self.hall.start(thing, word, values), thing

    def finish(self, run, most=200):
        """Lets the run go on to its end; told is how it ended."""
        return self.hall.go(run, beats=most)

    def told_by(self, *rows, **more):
        """How a run of a new way with these rows ends."""
        return self.finish(self.start(*rows, **more)[0])


def paths_hold(hall):
    """Whether each path that a hall tells leads there."""
    for number in hall.things():
        path = hall.path_to(("thing", number))
        if path is not None and path_end(hall, path) != ("thing", number):
            return False
    return True


def path_end(hall, path):
    first = path[0]
    value = dict(hall.held())[first[1]] if first[0] == "held" else first[2]
    for field in path[1:]:
        if field in hall.weak_of(hall.kind_of(value)):
            return None
        value = hall.get(value, field)
    return value


def strict(thing):
    """The thing, with truths told apart from whole numbers, and lists from tuples."""
    if isinstance(thing, (tuple, list)):
        return (type(thing).__name__,) + tuple(strict(part) for part in thing)
    return (type(thing).__name__, thing)


def all_told(hall, words=(), but=()):
    """All that can be told of a hall, but which deeds can be done again, and what is left out."""
    kinds = hall.kinds()
    all_words = sorted({word for kind in kinds for word in hall.words(kind)} | set(words))
    things = [("thing", number) for number in hall.things()]
    told = {
        "kinds": kinds,
        "lines": [hall.line(kind) for kind in kinds],
        "heirs": [hall.heirs(kind) for kind in kinds],
        "fields": [(hall.fields_of(kind), hall.weak_of(kind)) for kind in kinds],
        "words": [hall.words(kind) for kind in kinds],
        "found": [(kind, word, hall.found(kind, word)) for kind in kinds for word in all_words],
        "ways": [(kind, word, hall.way_of(kind, word)) for kind in kinds for word in hall.words(kind)
                 if hall.found(kind, word) == kind],
        "askers": [(word, hall.askers(word)) for word in all_words],
        "unheard": [hall.unheard(kind) for kind in kinds],
        "of": [(hall.all_of(kind), hall.all_of(kind, below=True)) for kind in kinds],
        "things": hall.things(),
        "has": [(thing, hall.kind_of(thing), [(f, hall.get(thing, f)) for f in hall.fields_of(hall.kind_of(thing))])
                for thing in things],
        "held": hall.held(),
        "runs": [(run, hall.state(run), hall.waits(run), hall.frames(run)) for run in hall.runs()],
        "paths": [None if hall.path_to(thing) is None else len(hall.path_to(thing)) for thing in things],
        "keeps": [hall.keeps(thing) for thing in things],
        "deeds": hall.deeds(),
        "counts": hall.counts(),
        "str": str(hall),
        "len": len(hall),
    }
    return strict(tuple((kind, told[kind]) for kind in told if kind not in but))


class Fault(Exception):
    def __init__(self, value):
        super().__init__("a fault")
        self.value = value


class Handle:
    """What leads to a thing."""

    def __init__(self, thing):
        self.thing = thing


class Thing:
    def __init__(self, number, kind):
        self.number = number
        self.kind = kind
        self.fields = {}


class KindOf:
    def __init__(self, name, elder, fields, weak):
        self.name = name
        self.elder = elder
        self.fields = list(fields)
        self.weak = [field for field in fields if field in weak]
        self.ways = {}
        self.gone = False

    def line(self):
        return [self] + (self.elder.line() if self.elder else [])

    def all_fields(self):
        return (self.elder.all_fields() if self.elder else []) + self.fields

    def all_weak(self):
        return (self.elder.all_weak() if self.elder else []) + self.weak


def thawed(thing):
    return [thawed(part) for part in thing] if isinstance(thing, tuple) else thing


def frozen(thing):
    return tuple(frozen(part) for part in thing) if isinstance(thing, list) else thing


E_WORDS = ("value", "self", "name", "field", "ask", "elder", "new", "same", "add", "sub", "mul", "under")


def rename_e(e, at_field, at_kind):
    if e[0] == "field":
        e[1] = at_field.get(e[1], e[1])
    elif e[0] == "new":
        e[1] = at_kind.get(e[1], e[1])
    elif e[0] == "ask":
        for part in [e[1]] + e[3]:
            rename_e(part, at_field, at_kind)
    elif e[0] == "elder":
        for part in e[2]:
            rename_e(part, at_field, at_kind)
    elif e[0] in ("same", "add", "sub", "mul", "under"):
        rename_e(e[1], at_field, at_kind)
        rename_e(e[2], at_field, at_kind)


def rename_body(body, at_field, at_kind):
    for row in body:
        if row[0] == "put":
            row[1] = at_field.get(row[1], row[1])
        if row[0] in ("do", "give", "raise", "when", "while"):
            rename_e(row[1], at_field, at_kind)
        if row[0] in ("let", "put"):
            rename_e(row[2], at_field, at_kind)
        for part in {"when": row[2:], "while": row[2:], "try": row[1::2]}.get(row[0], []):
            rename_body(part, at_field, at_kind)


class WayFrame:
    """A way that runs: a generator that yields what it halts ahead of."""

    def __init__(self, hall, kind, word, asked, given, names, body):
        self.hall = hall
        self.kind = kind
        self.word = word
        self.asked = asked
        self.given = given
        self.names = dict(zip(names, given))
        self.body = body
        self.needed = []
        self.asking = None
        self.gen = self.run()

    def run(self):
        return (yield from self.rows(self.body)) or ("end", None)

    def rows(self, body):
        for row in body:
            ended = yield from self.row(row)
            if ended:
                return ended
        return None

    def row(self, row):
        if row[0] == "do":
            yield from self.e(row[1])
        elif row[0] == "let":
            self.names[row[1]] = yield from self.e(row[2])
        elif row[0] == "put":
            value = yield from self.e(row[2])
            if row[1] not in self.asked.thing.fields:
                raise Fault("no field " + row[1])
            self.asked.thing.fields[row[1]] = value
        elif row[0] == "give":
            return ("end", (yield from self.e(row[1])))
        elif row[0] == "raise":
            raise Fault((yield from self.e(row[1])))
        elif row[0] == "when":
            return (yield from self.rows(row[2] if (yield from self.truth(row[1])) else row[3]))
        elif row[0] == "while":
            return (yield from self.loop(row))
        else:
            try:
                return (yield from self.rows(row[1]))
            except Fault as fault:
                self.names[row[2]] = fault.value
                self.needed = []
            return (yield from self.rows(row[3]))
        return None

    def truth(self, e):
        value = yield from self.e(e)
        if not isinstance(value, bool):
            raise Fault("no truth")
        return value

    def loop(self, row):
        while True:
            yield ("while",)
            if not (yield from self.truth(row[1])):
                return None
            ended = yield from self.rows(row[2])
            if ended:
                return ended

    def both(self, e):
        one = yield from self.e(e[1])
        self.needed.append(one)
        other = yield from self.e(e[2])
        self.needed.pop()
        return one, other

    def many(self, es):
        values = []
        for e in es:
            value = yield from self.e(e)
            values.append(value)
            self.needed.append(value)
        del self.needed[len(self.needed) - len(values):]
        return values

    def e(self, e):
        word = e[0]
        if word == "value":
            return e[1]
        if word == "self":
            return self.asked
        if word == "name":
            return self.names.get(e[1])
        if word == "field":
            if e[1] not in self.asked.thing.fields:
                raise Fault("no field " + e[1])
            return self.asked.thing.fields[e[1]]
        if word == "ask":
            asked, *values = yield from self.many([e[1]] + e[3])
            return (yield ("ask", asked, e[2], values))
        if word == "elder":
            values = yield from self.many(e[2])
            return (yield ("elder", self.asked, e[1], values))
        if word == "new":
            return Handle(self.hall.new_thing(self.hall.kind(e[1])))
        one, other = yield from self.both(e)
        if word == "same":
            return plain_same(one, other)
        if type(one) is not int or type(other) is not int:
            raise Fault("no numbers")
        return {"add": one + other, "sub": one - other, "mul": one * other, "under": one < other}[word]


def plain_same(one, other):
    if isinstance(one, Handle) and isinstance(other, Handle):
        return one.thing is other.thing
    return type(one) is type(other) and one == other


class PlainRun:
    def __init__(self, waits):
        self.stack = []
        self.waits = waits
        self.outcome = None


class PlainHall:
    """A hall, written as simply as can be."""

    def __init__(self):
        self.clear()
        self.past = []
        self.future = []

    def clear(self):
        self.all_kinds = [KindOf("thing", None, (), ())]
        self.all_things = {}
        self.all_held = {}
        self.all_runs = {}
        self.next_thing = 0
        self.next_run = 0

    # What things lead to

    def kind(self, name):
        for kind in self.all_kinds:
            if kind.name == name:
                return kind
        raise errors.NoKind(name)

    def new_thing(self, kind):
        thing = Thing(self.next_thing, kind)
        thing.fields = {field: None for field in kind.all_fields()}
        self.all_things[self.next_thing] = thing
        self.next_thing += 1
        return thing

    def thing(self, thing):
        if isinstance(thing, tuple) and len(thing) == 2 and thing[0] == "thing" and type(thing[1]) is int:
            if thing[1] in self.all_things:
                return self.all_things[thing[1]]
        raise errors.NoThing()

    def inward(self, value):
        if type(value) is int or value is None or isinstance(value, bool):
            return value
        if isinstance(value, str) and len(value) <= 40 and all(" " <= sign <= "~" for sign in value):
            return value
        try:
            return Handle(self.thing(value))
        except errors.NoThing:
            raise errors.BadValue() from None

    def outward(self, value):
        return ("thing", value.thing.number) if isinstance(value, Handle) else value

    def below(self, kind):
        return [other for other in self.all_kinds if kind in other.line()]

    def live_frames(self):
        return [frame for run in self.all_runs.values() if not run.outcome for frame in run.stack]

    def handles(self):
        found = [value for thing in self.all_things.values() for value in thing.fields.values()]
        found += list(self.all_held.values())
        for run in self.all_runs.values():
            found += self.run_handles(run)
        return [value for value in found if isinstance(value, Handle)]

    def run_handles(self, run):
        if run.outcome:
            return [run.outcome[1]]
        found = []
        for frame in run.stack:
            found += [frame.asked, *frame.given, *frame.names.values(), *frame.needed]
        if run.waits[0] != "while":
            found += [run.waits[1], *run.waits[3]]
        return found

    # Deeds

    def do(self, word, values):
        told = getattr(self, "do_" + word)(*values)
        self.past.append((word, values))
        self.future = []
        return told

    def replay(self, past):
        self.clear()
        for word, values in past:
            getattr(self, "do_" + word)(*values)
        self.past = list(past)

    def back(self):
        if not self.past:
            raise errors.NoBack()
        last = self.past[-1]
        self.replay(self.past[:-1])
        self.future.append(last)
        return last[0]

    def again(self):
        if not self.future:
            raise errors.NoBack()
        word, values = self.future.pop()
        getattr(self, "do_" + word)(*values)
        self.past.append((word, values))
        return word

    def together(self, deeds):
        past, future = list(self.past), list(self.future)
        told = []
        try:
            for word, values in deeds:
                told.append(self.do(word, values))
        except errors.HallError:
            self.replay(past)
            self.future = future
            raise
        return tuple(told)

    def check_name(self, name):
        if not (isinstance(name, str) and 1 <= len(name) <= 12 and all("a" <= sign <= "z" for sign in name)):
            raise errors.BadName(name)

    def is_name(self, name):
        try:
            self.check_name(name)
        except errors.BadName:
            return False
        return True

    def do_make_kind(self, name, elder, fields, weak):
        self.check_name(name)
        if name in [kind.name for kind in self.all_kinds]:
            raise errors.Known(name)
        above = self.kind(elder)
        for field in fields:
            if not self.is_name(field) or fields.count(field) > 1 or field in above.all_fields():
                raise errors.BadField(field)
        for field in weak:
            if field not in fields:
                raise errors.BadField(field)
        self.all_kinds.append(KindOf(name, above, fields, weak))

    def do_reshape(self, name, add, drop, rename):
        kind = self.kind(name)
        olds = list(drop) + [old for old, new in rename]
        for field in olds:
            if field not in kind.fields or olds.count(field) > 1:
                raise errors.NoField(field)
        changed = dict(rename)
        then = [changed.get(field, field) for field in kind.fields if field not in drop] + list(add)
        taken = kind.elder.all_fields() if kind.elder else []
        for other in self.below(kind):
            if other is not kind:
                taken = taken + other.fields
        for field in list(add) + [new for old, new in rename]:
            if not self.is_name(field) or then.count(field) > 1 or field in taken:
                raise errors.BadField(field)
        kind.weak = [changed.get(field, field) for field in kind.weak if field not in drop]
        kind.fields = then
        for other in self.below(kind):
            for thing in self.all_things.values():
                if thing.kind is other:
                    has = {f: v for f, v in thing.fields.items() if f not in olds}
                    has.update({new: thing.fields[old] for old, new in rename})
                    has.update({field: None for field in add})
                    thing.fields = has
        standing = self.below(kind)
        bodies = [way[1] for other in standing for way in other.ways.values()]
        bodies += [frame.body for frame in self.live_frames() if frame.kind in standing]
        self.rename_all(bodies, changed, {})

    def rename_all(self, bodies, at_field, at_kind):
        met = []
        for body in bodies:
            if not any(body is other for other in met):
                met.append(body)
                rename_body(body, at_field, at_kind)

    def do_move_kind(self, name, elder):
        kind = self.kind(name)
        above = self.kind(elder)
        if name == "thing":
            raise errors.Fixed()
        if kind in above.line():
            raise errors.Ring()
        for field in above.all_fields():
            if any(field in other.fields for other in self.below(kind)):
                raise errors.BadField(field)
        kind.elder = above
        for thing in self.all_things.values():
            if kind in thing.kind.line():
                thing.fields = {field: thing.fields.get(field) for field in thing.kind.all_fields()}

    def do_rename_kind(self, name, other):
        kind = self.kind(name)
        if name == "thing":
            raise errors.Fixed()
        self.check_name(other)
        if other in [kind.name for kind in self.all_kinds]:
            raise errors.Known(other)
        kind.name = other
        bodies = [way[1] for each in self.all_kinds for way in each.ways.values()]
        self.rename_all(bodies + [frame.body for frame in self.live_frames()], {}, {name: other})

    def do_drop_kind(self, name):
        kind = self.kind(name)
        if name == "thing":
            raise errors.Fixed()
        bodies = [way[1] for each in self.all_kinds for way in each.ways.values()]
        bodies += [frame.body for frame in self.live_frames()]
        used = any(name in kinds_in(frozen(body)) for body in bodies)
        used = used or any(thing.kind is kind for thing in self.all_things.values())
        if used or len(self.below(kind)) > 1:
            raise errors.InUse()
        kind.gone = True
        self.all_kinds.remove(kind)

    def do_set_way(self, name, word, body, names):
        kind = self.kind(name)
        self.check_name(word)
        for each in names:
            self.check_name(each)
            if names.count(each) > 1:
                raise errors.BadName(each)
        if not is_body(body):
            raise errors.BadBody()
        for made in kinds_in(body):
            self.kind(made)
        kind.ways[word] = (names, thawed(body))

    def do_drop_way(self, name, word):
        kind = self.kind(name)
        if word not in kind.ways:
            raise errors.NoWay()
        del kind.ways[word]

    def do_make(self, name):
        return ("thing", self.new_thing(self.kind(name)).number)

    def do_put(self, thing, field, value):
        has = self.thing(thing).fields
        if field not in has:
            raise errors.NoField(field)
        has[field] = self.inward(value)

    def do_hold(self, name, value):
        self.check_name(name)
        self.all_held[name] = self.inward(value)

    def do_let_go(self, name):
        if name not in self.all_held:
            raise errors.NoName(name)
        del self.all_held[name]

    def turn_handles(self, places):
        met = []
        for handle in self.handles():
            if not any(handle is other for other in met):
                met.append(handle)
        for handle in met:
            for old, new in places:
                if handle.thing is old:
                    handle.thing = new
                    break

    def do_swap(self, one, other):
        first, second = self.thing(one), self.thing(other)
        self.turn_handles([(first, second), (second, first)])

    def do_forward(self, one, other):
        first, second = self.thing(one), self.thing(other)
        if first is second:
            raise errors.Same()
        self.turn_handles([(first, second)])
        del self.all_things[first.number]

    def do_start(self, value, word, values):
        self.check_name(word)
        inward = [self.inward(each) for each in (value,) + values]
        self.all_runs[self.next_run] = PlainRun(("ask", inward[0], word, inward[1:]))
        self.next_run += 1
        return self.next_run - 1

    def run(self, run):
        if type(run) is not int or run not in self.all_runs:
            raise errors.NoRun()
        return self.all_runs[run]

    def halted(self, run):
        if self.run(run).outcome:
            raise errors.Ended()
        return self.run(run)

    def do_end(self, run):
        self.run(run)
        del self.all_runs[run]

    def do_go(self, run, beats):
        row = self.run(run)
        for _ in range(beats):
            if not row.outcome:
                self.beat(row)
        return self.state(run)

    def beat(self, row):
        if row.waits[0] == "while":
            return self.resume(row, "send", None)
        how, asked, word, values = row.waits
        line = []
        if how == "elder":
            stands = row.stack[-1].kind
            line = [] if stands.gone else stands.line()[1:]
        elif isinstance(asked, Handle):
            line = asked.thing.kind.line()
        for kind in line:
            if word in kind.ways:
                names, body = kind.ways[word]
                if len(names) != len(values):
                    break
                row.stack.append(WayFrame(self, kind, word, asked, values, names, body))
                return self.resume(row, "send", None)
        return self.resume(row, "throw", "no way " + word)

    def resume(self, row, how, value):
        while True:
            if not row.stack:
                row.outcome = ("done" if how == "send" else "failed", value)
                row.waits = None
                return
            gen = row.stack[-1].gen
            try:
                row.waits = gen.send(value) if how == "send" else gen.throw(Fault(value))
                row.stack[-1].asking = row.waits[0]
                return
            except StopIteration as stop:
                how, value = "send", stop.value[1]
            except Fault as fault:
                how, value = "throw", fault.value
            row.stack.pop()

    def do_give(self, run, value):
        row = self.halted(run)
        inward = self.inward(value)
        if row.stack:
            row.stack.pop()
        self.resume(row, "send", inward)
        return self.state(run)

    def do_answer(self, run, value):
        row = self.halted(run)
        if row.waits[0] == "while":
            raise errors.NoAsk()
        self.resume(row, "send", self.inward(value))
        return self.state(run)

    def do_fault(self, run, value):
        row = self.halted(run)
        self.resume(row, "throw", self.inward(value))
        return self.state(run)

    def do_redo(self, run, frame):
        row = self.halted(run)
        if not 0 <= frame < len(row.stack):
            raise errors.NoFrame()
        undone = row.stack[-1 - frame]
        del row.stack[-1 - frame:]
        how = "ask"
        if row.stack:
            how = row.stack[-1].asking
        row.waits = (how, undone.asked, undone.word, undone.given)
        return self.state(run)

    def do_sweep(self):
        kept = {thing.number for thing, _ in self.reached(None)}
        gone = tuple(number for number in sorted(self.all_things) if number not in kept)
        for number in gone:
            del self.all_things[number]
        for thing in self.all_things.values():
            for field in thing.fields:
                value = thing.fields[field]
                if isinstance(value, Handle) and value.thing.number in gone:
                    thing.fields[field] = None
        return gone

    def reached(self, barred):
        found = []
        ring = [value.thing for value in self.all_held.values() if isinstance(value, Handle)]
        ring += [v.thing for run in self.all_runs.values() for v in self.run_handles(run) if isinstance(v, Handle)]
        depth = 1
        while ring:
            outer = []
            for thing in ring:
                if thing is barred or any(thing is other for other, _ in found):
                    continue
                found.append((thing, depth))
                strong = [f for f in thing.fields if f not in thing.kind.all_weak()]
                outer += [thing.fields[f].thing for f in strong if isinstance(thing.fields[f], Handle)]
            ring = outer
            depth += 1
        return found

    # What is told

    def state(self, run):
        row = self.run(run)
        return (row.outcome[0], self.outward(row.outcome[1])) if row.outcome else ("halted",)

    def waits(self, run):
        row = self.run(run)
        if row.outcome:
            return None
        if row.waits[0] == "while":
            return ("while",)
        return ("ask", self.outward(row.waits[1]), row.waits[2], tuple(self.outward(v) for v in row.waits[3]))

    def frames(self, run):
        row = self.run(run)
        return tuple(
            (None if f.kind.gone else f.kind.name, f.word, self.outward(f.asked),
             tuple(sorted((name, self.outward(f.names[name])) for name in f.names)))
            for f in ([] if row.outcome else row.stack[::-1])
        )

    def kinds(self):
        return tuple(kind.name for kind in self.all_kinds)

    def line(self, name):
        return tuple(kind.name for kind in self.kind(name).line())

    def heirs(self, name):
        return tuple(kind.name for kind in self.all_kinds if kind.elder is self.kind(name))

    def fields_of(self, name):
        return tuple(self.kind(name).all_fields())

    def weak_of(self, name):
        return tuple(self.kind(name).all_weak())

    def way_of(self, name, word):
        names, body = self.kind(name).ways[word]
        return names, frozen(body)

    def found(self, name, word):
        for kind in self.kind(name).line():
            if word in kind.ways:
                return kind.name
        return None

    def words(self, name):
        return tuple(sorted({word for kind in self.kind(name).line() for word in kind.ways}))

    def askers(self, word):
        return tuple(sorted((kind.name, own) for kind in self.all_kinds for own in kind.ways
                            if word in asked_in(frozen(kind.ways[own][1]))))

    def unheard(self, name):
        asked = [word for way in self.kind(name).ways.values() for word in asked_of_self(way[1])]
        return tuple(sorted({word for word in asked if self.found(name, word) is None}))

    def things(self):
        return tuple(sorted(self.all_things))

    def kind_of(self, thing):
        return self.thing(thing).kind.name

    def get(self, thing, field):
        return self.outward(self.thing(thing).fields[field])

    def all_of(self, name, below=False):
        kind = self.kind(name)
        kinds = self.below(kind) if below else [kind]
        return tuple(sorted(thing.number for thing in self.all_things.values() if thing.kind in kinds))

    def held(self):
        return tuple((name, self.outward(self.all_held[name])) for name in sorted(self.all_held))

    def runs(self):
        return tuple(sorted(self.all_runs))

    def path_to(self, thing):
        for other, depth in self.reached(None):
            if other is self.thing(thing):
                return (None,) * depth
        return None

    def keeps(self, thing):
        all_things = {other.number for other, _ in self.reached(None)}
        without = {other.number for other, _ in self.reached(self.thing(thing))}
        return tuple(sorted(all_things - without))

    def deeds(self):
        return tuple(self.past)

    def counts(self):
        return (len(self.past), len(self.future))

    def __len__(self):
        return len(self.all_things)

    def __str__(self):
        return "%d kinds, %d things, %d runs" % (len(self.all_kinds), len(self.all_things), len(self.all_runs))


def asked_of_self(thing):
    """Every word that is asked with self as the asked, anywhere in a body that is made of lists."""
    found = []
    if isinstance(thing, list):
        if len(thing) == 4 and thing[0] == "ask" and thing[1] == ["self"]:
            found.append(thing[2])
        for part in thing:
            found += asked_of_self(part)
    return found
