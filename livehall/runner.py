"""How runs go on, step by step, from one halt to the next."""

from livehall.frames import Frame, Run, copied, ready_ask, step_of, take_ready
from livehall.lines import finder
from livehall.things import is_there, new_thing, write_field
from livehall.values import is_whole, same

HALTS = ("ask", "elder", "loop")


class Runner:
    """A run while it goes on. Its top frame is its own; those below may be shared, and are copied when they go on."""

    def __init__(self, store, top):
        self.store = store
        self.top = copied(top)
        self.outcome = None

    def row(self):
        return Run(self.top, self.outcome)

    def finish(self, word, value):
        self.top = None
        self.outcome = (word, value)

    def pass_step(self):
        top = self.top
        top.at += 1

    def push(self, value):
        """The step at which the run is has worked out the value."""
        self.top.work.append(value)
        self.pass_step()

    def pull(self):
        """What was worked out last."""
        return self.top.work.pop()

    def end_way(self, value):
        """The last way that has begun ends with the value."""
        below = self.top.below
        if below is None:
            self.finish("done", value)
        else:
            self.top = copied(below)
            self.push(value)

    def meet_fault(self, value):
        """The value is a fault here: the nearest try around takes it, in this way or in those that asked."""
        frame = self.top
        while frame is not None and frame.way.catches[frame.at] is None:
            frame = frame.below
        if frame is None:
            self.finish("failed", value)
        else:
            top = copied(frame)
            top.at = frame.way.catches[frame.at]
            top.work = [value]
            self.top = top


def do_value(runner, step):
    runner.push(step[1])


def do_self(runner, step):
    runner.push(runner.top.asked)


def do_name(runner, step):
    runner.push(runner.top.names.get(step[1]))


def has_field(runner, field):
    return field in runner.store.thing_rows[runner.top.asked[1]][1]


def do_field(runner, step):
    if has_field(runner, step[1]):
        runner.push(runner.store.thing_rows[runner.top.asked[1]][1][step[1]])
    else:
        runner.meet_fault(f"no field {step[1]}")


def do_new(runner, step):
    store = runner.store
    runner.push(new_thing(store, store.kind_numbers[step[1]]))


def do_same(runner, step):
    other = runner.pull()
    one = runner.pull()
    runner.push(same(one, other))


def counted(word, one, other):
    if word == "add":
        return one + other
    if word == "sub":
        return one - other
    if word == "mul":
        return one * other
    return one < other


def do_count(runner, step):
    other = runner.pull()
    one = runner.pull()
    if is_whole(one) and is_whole(other):
        runner.push(counted(step[0], one, other))
    else:
        runner.meet_fault("no numbers")


def do_do(runner, step):
    runner.pull()
    runner.pass_step()


def do_let(runner, step):
    runner.top.names[step[1]] = runner.pull()
    runner.pass_step()


def do_put(runner, step):
    value = runner.pull()
    if has_field(runner, step[1]):
        write_field(runner.store, runner.top.asked[1], step[1], value)
        runner.pass_step()
    else:
        runner.meet_fault(f"no field {step[1]}")


def do_give(runner, step):
    runner.end_way(runner.pull())


def do_raise(runner, step):
    runner.meet_fault(runner.pull())


def jump(runner, place):
    top = runner.top
    top.at = place


def do_branch(runner, step):
    truth = runner.pull()
    if truth is True:
        runner.pass_step()
    elif truth is False:
        jump(runner, step[1])
    else:
        runner.meet_fault("no truth")


def do_jump(runner, step):
    jump(runner, step[1])


ACTIONS = {
    "value": do_value,
    "self": do_self,
    "name": do_name,
    "field": do_field,
    "new": do_new,
    "same": do_same,
    "add": do_count,
    "sub": do_count,
    "mul": do_count,
    "under": do_count,
    "do": do_do,
    "let": do_let,
    "put": do_put,
    "give": do_give,
    "raise": do_raise,
    "branch": do_branch,
    "jump": do_jump,
}


def go_on(runner):
    """Goes on to the next halt, or to the end."""
    while runner.outcome is None and step_of(runner.top)[0] not in HALTS:
        step = step_of(runner.top)
        action = ACTIONS[step[0]]
        action(runner, step)


def first_looked(store, top, asked):
    """The kind from which on a way is looked for; None if there is none."""
    if step_of(top)[0] == "elder":
        return store.kind_rows[top.kind].elder if top.kind in store.kind_rows else None
    return store.thing_rows[asked[1]][0] if is_there(store, asked) else None


def begin_way(runner):
    """Does the ask that the run halts ahead of."""
    store = runner.store
    top = runner.top
    word = step_of(top)[1]
    asked, values = ready_ask(top)
    take_ready(top)
    kind = finder(store, first_looked(store, top, asked), word)
    way = None if kind is None else store.kind_rows[kind].ways[word]
    if way is None or len(way.names) != len(values):
        runner.meet_fault(f"no way {word}")
    else:
        runner.top = Frame(way, kind, word, asked, values, top)


def beat(runner):
    """Does what the run halts ahead of, and goes on."""
    if step_of(runner.top)[0] == "loop":
        runner.pass_step()
    else:
        begin_way(runner)
    go_on(runner)
