"""Runs, and the ways that have begun in them.

The frames of a run hang one on the other, the last one being the top. Below all ways stands a frame that is none of
them, that of the run itself: it asks what the run was started to ask, and gives what comes of it.
"""

from livehall.steps import Way


class Frame:
    """A way that has begun: where it stands, what was asked and given, what its names have, and how far it is.

    Its work is what is worked out and still needed. Frames are shared by what is now and what can be taken back, so
    only copies are changed.
    """

    def __init__(self, way, kind, word, asked, given, below):
        self.way = way
        self.kind = kind
        self.word = word
        self.asked = asked
        self.given = given
        self.below = below
        self.names = dict(zip(way.names, given))
        self.at = 0
        self.work = []


class Run:
    """A row for a run: its top frame while it halts, or how it ended."""

    def __init__(self, top, outcome):
        self.top = top
        self.outcome = outcome


def first_frame(asked, word, given):
    """The frame of a run itself."""
    names = tuple([f"{at}" for at in range(len(given))])
    ask = ("ask", ("self",), word, tuple([("name", name) for name in names]))
    return Frame(Way(names, (("give", ask),)), None, word, asked, given, None)


def copied(frame):
    """A frame that may be changed."""
    twin = Frame(frame.way, frame.kind, frame.word, frame.asked, frame.given, frame.below)
    twin.names = dict(frame.names)
    twin.at = frame.at
    twin.work = list(frame.work)
    return twin


def chain(top):
    """The frames from the top down to that of the run itself; none for None."""
    frames = []
    frame = top
    while frame is not None:
        frames.append(frame)
        frame = frame.below
    return frames


def begun(run):
    """The frames of the ways that have begun and not ended, the last one first."""
    return chain(run.top)[:-1]


def halted_runs(store):
    """The runs that have not ended, each as (number, row)."""
    runs = [(number, store.run_rows[number]) for number in sorted(store.run_rows)]
    return [(number, run) for number, run in runs if run.outcome is None]


def change_frames(store, change):
    """Does this to every frame of every run that has not ended."""
    for number, run in halted_runs(store):
        below = None
        for frame in reversed(chain(run.top)):
            twin = copied(frame)
            twin.below = below
            change(twin)
            below = twin
        store.write("run", number, Run(below, None))


def frame_values(frame):
    """All values that are in a frame."""
    return [frame.asked] + list(frame.given) + list(frame.names.values()) + frame.work


def run_values(run):
    """All values that are in a run."""
    if run.outcome is not None:
        return [run.outcome[1]]
    return [value for frame in chain(run.top) for value in frame_values(frame)]


def step_of(frame):
    """The step at which the frame is."""
    return frame.way.steps[frame.at]


def ready_ask(frame):
    """What the frame, that halts ahead of an ask, is to ask, and with which values."""
    step = step_of(frame)
    at = len(frame.work) - step[2]
    asked = frame.asked if step[0] == "elder" else frame.work[at - 1]
    return asked, tuple(frame.work[at:])


def take_ready(frame):
    """Takes what is to be asked and given from the work of a frame."""
    step = step_of(frame)
    many = step[2] if step[0] == "elder" else step[2] + 1
    del frame.work[len(frame.work) - many:]


def put_ready(frame, asked, given):
    """Puts what is to be asked and given back to the work of a frame."""
    if step_of(frame)[0] == "ask":
        frame.work.append(asked)
    frame.work.extend(given)
