"""Which halls are alike.

Of each hall a picture is drawn: its things are counted anew, in the order in which held names, runs and fields lead
to them. Halls are alike if their pictures are the same.
"""

from livehall.frames import chain
from livehall.lines import kind_name, line_fields
from livehall.things import held_told
from livehall.values import same


class Counter:
    """Counts things as it meets them."""

    def __init__(self):
        self.places = {}
        self.met = []

    def counted_anew(self, value):
        """The value, a thing being told by its new number."""
        if not isinstance(value, tuple):
            return value
        if value[1] not in self.places:
            self.places[value[1]] = len(self.met)
            self.met.append(value[1])
        return ("thing", self.places[value[1]])

    def row_anew(self, values):
        return tuple([self.counted_anew(value) for value in values])

    def pairs_anew(self, names):
        """Rising pairs of the names and their values."""
        return tuple([(name, self.counted_anew(names[name])) for name in sorted(names)])


def ways_picture(ways):
    return tuple([(word, ways[word].names, ways[word].body) for word in sorted(ways)])


def kinds_picture(store):
    rows = [store.kind_rows[number] for number in sorted(store.kind_rows)]
    return tuple([(row.name, kind_name(store, row.elder), row.own, row.weak, ways_picture(row.ways)) for row in rows])


def frame_picture(store, counter, frame):
    way = (kind_name(store, frame.kind), frame.word, frame.way.names, frame.way.body, frame.at)
    given = counter.row_anew([frame.asked, *frame.given])
    return (way, given, counter.pairs_anew(frame.names), counter.row_anew(frame.work))


def run_picture(store, counter, run):
    if run.outcome is not None:
        return (run.outcome[0], counter.counted_anew(run.outcome[1]))
    return ("halted", tuple([frame_picture(store, counter, frame) for frame in chain(run.top)]))


def thing_picture(store, counter, number):
    kind, fields = store.thing_rows[number]
    return (kind_name(store, kind), counter.row_anew([fields[field] for field in line_fields(store, kind)]))


def things_picture(store, counter):
    """All things that were met, and those that are met on the way."""
    drawn = []
    while len(drawn) < len(counter.met):
        drawn.append(thing_picture(store, counter, counter.met[len(drawn)]))
    return tuple(drawn)


def picture(store):
    counter = Counter()
    held = counter.pairs_anew({name: value for name, value in held_told(store)})
    runs = [(number, run_picture(store, counter, store.run_rows[number])) for number in sorted(store.run_rows)]
    return (kinds_picture(store), held, tuple(runs), things_picture(store, counter))


def alike(one, other):
    """Whether two halls are alike."""
    return same(picture(one.store), picture(other.store))
