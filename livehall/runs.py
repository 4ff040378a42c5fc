"""Runs: deeds on them, the hands that are laid on them, and what is told of them."""

from livehall.errors import BadName, Ended, NoAsk, NoFrame, NoRun
from livehall.frames import Run, begun, copied, first_frame, put_ready, ready_ask, step_of, take_ready
from livehall.lines import kind_name
from livehall.runner import Runner, beat, go_on
from livehall.things import check_value
from livehall.values import is_name, is_whole


def run_row(store, run):
    if not is_whole(run) or run not in store.run_rows:
        raise NoRun("there is no such run")
    return store.run_rows[run]


def halted_row(store, run):
    row = run_row(store, run)
    if row.outcome is not None:
        raise Ended("the run has ended")
    return row


def state_told(store, run):
    row = run_row(store, run)
    return ("halted",) if row.outcome is None else row.outcome


def keep_on(store, run, runner):
    """Lets the run go on to its next halt or its end, and tells its state."""
    go_on(runner)
    store.write("run", run, runner.row())
    return state_told(store, run)


def start(store, value, word, values):
    if not is_name(word):
        raise BadName(word)
    for each in [value, *values]:
        check_value(store, each)
    number = store.new_number("run")
    keep_on(store, number, Runner(store, first_frame(value, word, tuple(values))))
    return number


def end(store, run):
    run_row(store, run)
    store.write("run", run, None)


def go(store, run, beats):
    row = run_row(store, run)
    if row.outcome is None:
        runner = Runner(store, row.top)
        while beats > 0 and runner.outcome is None:
            beat(runner)
            beats -= 1
        store.write("run", run, runner.row())
    return state_told(store, run)


def give(store, run, value):
    row = halted_row(store, run)
    check_value(store, value)
    runner = Runner(store, row.top)
    runner.end_way(value)
    return keep_on(store, run, runner)


def waits_for_ask(row):
    return step_of(row.top)[0] != "loop"


def answer(store, run, value):
    row = halted_row(store, run)
    if not waits_for_ask(row):
        raise NoAsk("the run halts ahead of a while")
    check_value(store, value)
    runner = Runner(store, row.top)
    take_ready(runner.top)
    runner.push(value)
    return keep_on(store, run, runner)


def fault(store, run, value):
    row = halted_row(store, run)
    check_value(store, value)
    runner = Runner(store, row.top)
    runner.meet_fault(value)
    return keep_on(store, run, runner)


def redo(store, run, frame):
    row = halted_row(store, run)
    ways = begun(row)
    if frame < 0 or frame >= len(ways):
        raise NoFrame("so many ways have not begun")
    undone = ways[frame]
    top = copied(undone.below)
    put_ready(top, undone.asked, undone.given)
    store.write("run", run, Run(top, None))
    return state_told(store, run)


def waits_told(store, run):
    """What the run halts ahead of; None if it has ended."""
    row = run_row(store, run)
    if row.outcome is not None:
        return None
    if not waits_for_ask(row):
        return ("while",)
    asked, values = ready_ask(row.top)
    return ("ask", asked, step_of(row.top)[1], values)


def frame_told(store, frame):
    names = tuple([(name, frame.names[name]) for name in sorted(frame.names)])
    return (kind_name(store, frame.kind), frame.word, frame.asked, names)


def frames_told(store, run):
    return tuple([frame_told(store, frame) for frame in begun(run_row(store, run))])


RUN_DEEDS = {
    "start": start,
    "end": end,
    "go": go,
    "give": give,
    "answer": answer,
    "fault": fault,
    "redo": redo,
}
