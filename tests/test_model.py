"""Points 0.1 to 0.4: rows of deeds of all sorts, amid runs, told as a plain hall tells them that is written another way."""

import random
import unittest

from helper import PlainHall, all_told, paths_hold, strict
from livehall.errors import HallError
from livehall.halls import Hall
from livehall.likeness import alike
from livehall.writing import hall_text, read_hall

KINDS = ["thing", "box", "bag", "cup", "jar"]
FIELDS = ["fa", "fb", "fc", "fd"]
WORDS = {"hop": (), "run": ("x",), "sit": ("y",)}
NAMES = ["x", "y"]


class Deeds:
    """Makes deeds by chance, most of which can be done."""

    def __init__(self, seed, hall):
        self.chance = random.Random(seed)
        self.hall = hall

    def pick(self, many):
        return self.chance.choice(list(many))

    def some(self, many, most):
        many = list(many)
        return tuple(self.chance.sample(many, self.chance.randint(0, min(most, len(many)))))

    def mostly(self, first, other):
        """What the first tells, but now and then what the other tells."""
        return first() if self.chance.random() < 0.94 else other()

    def kind(self):
        return self.mostly(lambda: self.pick(self.hall.kinds()[1:] or KINDS[:1]), lambda: self.pick(KINDS))

    def thing(self):
        things = self.hall.things() or (0,)
        return ("thing", self.mostly(lambda: self.pick(things), lambda: self.chance.randint(0, 9)))

    def value(self):
        if self.chance.random() < 0.7:
            return self.thing()
        return self.pick([None, True, False, 0, 1, 2, -3, "a text", ""])

    def run(self):
        halted = [run for run in self.hall.runs() if self.hall.state(run) == ("halted",)]
        deep = [run for run in halted if self.hall.frames(run)]
        return self.mostly(lambda: self.pick(deep or halted or (0,)), lambda: self.pick(self.hall.runs() or (0,)))

    def leaf(self):
        return self.pick([
            ("self",), ("self",), ("name", self.pick(NAMES)), ("name", self.pick(NAMES)), ("new", self.kind()),
            ("field", self.field()), ("field", self.field()), ("value", self.pick([None, True, 1, 2, "t"])),
        ])

    def field(self):
        return self.pick(self.hall.fields_of(self.kind_there()) or FIELDS)

    def kind_there(self):
        return self.pick(self.hall.kinds())

    def e(self, depth):
        if depth <= 0 or self.chance.random() < 0.2:
            return self.leaf()
        inner = [
            lambda: self.ask(depth, self.leaf()), lambda: self.ask(depth, ("self",)), lambda: self.elder(depth),
            lambda: self.ask(depth, self.e(depth - 1)), lambda: self.ask(depth, ("self",)),
            lambda: ("same", self.e(depth - 1), self.e(depth - 1)),
            lambda: (self.pick(["add", "sub", "mul", "under"]), self.e(depth - 1), self.e(depth - 1)),
        ]
        return self.pick(inner)()

    def ask(self, depth, asked):
        word = self.pick(WORDS)
        return ("ask", asked, word, self.es(depth - 1, word))

    def elder(self, depth):
        word = self.pick(WORDS)
        return ("elder", word, self.es(depth - 1, word))

    def es(self, depth, word):
        many = self.mostly(lambda: len(WORDS[word]), lambda: self.chance.randint(0, 2))
        return tuple(self.e(depth) for _ in range(many))

    def truth(self):
        return self.mostly(lambda: self.pick([
            ("same", self.leaf(), self.leaf()), ("same", self.e(1), self.leaf()), ("value", True), ("value", False),
            ("under", ("value", 1), ("value", self.chance.randint(0, 2))),
        ]), lambda: self.e(1))

    def row(self, depth):
        rows = [
            lambda: ("do", self.e(2)), lambda: ("let", self.pick(NAMES), self.e(2)),
            lambda: ("put", self.field(), self.e(2)), lambda: ("put", self.field(), self.e(1)),
            lambda: ("do", self.e(3)), lambda: ("let", self.pick(NAMES), self.e(3)),
            lambda: ("put", self.field(), self.leaf()),
            lambda: self.pick([("give", self.e(2)), ("raise", self.e(1))]),
        ]
        inner = [
            lambda: ("when", self.truth(), self.body(depth - 1), self.body(depth - 1)),
            lambda: ("while", self.truth(), self.body(depth - 1)),
            lambda: ("try", self.body(depth - 1), self.pick(NAMES), self.body(depth - 1)),
            lambda: ("try", self.body(depth - 1), self.pick(NAMES), self.body(depth - 1)),
        ]
        return self.pick(rows if depth <= 0 else rows + inner)()

    def body(self, depth):
        return tuple(self.row(depth) for _ in range(self.chance.randint(0, 3)))

    def way(self):
        word = self.pick(WORDS)
        names = self.mostly(lambda: WORDS[word], lambda: self.some(NAMES, 2))
        return self.pick(self.hall.kinds()), word, self.body(2), names

    def began(self):
        """The first deeds, so that there is something to change."""
        deeds = [("make_kind", ("box", "thing", ("fa", "fb"), ("fb",))), ("make_kind", ("bag", "box", ("fc",), ()))]
        deeds += [("make", ("box",)), ("make", ("bag",)), ("make", ("bag",))]
        deeds += [("put", (("thing", 0), "fa", ("thing", 1))), ("hold", ("x", ("thing", 0)))]
        yield from deeds
        for kind in KINDS[:2]:
            for word in WORDS:
                yield ("set_way", (kind, word, self.body(2), WORDS[word]))
        for word in WORDS:
            yield ("start", (("thing", 1), word, tuple(self.value() for _ in WORDS[word])))

    def rename(self, kind):
        own = self.some(self.own_fields(kind), 2)
        return tuple((old, self.pick(FIELDS + ["ge"])) for old in own)

    def own_fields(self, kind):
        line = self.hall.line(kind)
        above = self.hall.fields_of(line[1]) if len(line) > 1 else ()
        return self.hall.fields_of(kind)[len(above):]

    def deed(self):
        """A word and all that is handed in."""
        makers = {
            "make_kind": (2, lambda: (self.pick(KINDS), self.kind(), *self.new_fields())),
            "reshape": (4, lambda: self.reshape()),
            "move_kind": (3, lambda: (self.kind(), self.kind())),
            "rename_kind": (2, lambda: (self.kind(), self.pick(KINDS))),
            "drop_kind": (4, lambda: (self.kind(),)),
            "set_way": (8, lambda: self.way()),
            "drop_way": (1, lambda: (self.kind(), self.pick(WORDS))),
            "make": (3, lambda: (self.kind(),)),
            "put": (5, lambda: self.put()),
            "hold": (3, lambda: (self.pick(NAMES), self.value())),
            "let_go": (2, lambda: (self.pick(NAMES),)),
            "swap": (3, lambda: (self.thing(), self.thing())),
            "forward": (1, lambda: (self.thing(), self.thing())),
            "start": (7, lambda: self.start()),
            "end": (1, lambda: (self.run(),)),
            "go": (30, lambda: (self.run(), self.pick([0, 1, 1, 1, 2, 3]))),
            "give": (2, lambda: (self.run(), self.value())),
            "answer": (3, lambda: (self.run(), self.value())),
            "fault": (2, lambda: (self.run(), self.value())),
            "redo": (3, lambda: (self.run(), self.pick([0, 0, 0, 1, 2]))),
            "sweep": (1, lambda: ()),
        }
        word = self.chance.choices(list(makers), [many for many, _ in makers.values()])[0]
        return word, makers[word][1]()

    def new_fields(self):
        fields = self.some(FIELDS, 2)
        return fields, self.some(fields, 1)

    def reshape(self):
        kind = self.kind_there()
        own = self.own_fields(kind)
        return kind, self.some(FIELDS, 1), self.some(own, 1), self.rename(kind) if self.chance.random() < 0.7 else ()

    def start(self):
        word = self.pick(WORDS)
        values = [self.value() for _ in range(self.mostly(lambda: len(WORDS[word]), lambda: 2))]
        return self.thing(), word, tuple(values)

    def put(self):
        thing = self.thing()
        fields = FIELDS
        if thing[1] in self.hall.things():
            fields = self.hall.fields_of(self.hall.kind_of(thing)) or FIELDS
        return thing, self.pick(fields), self.value()


def by_hand(hall, word, values):
    """Does a deed by its own method."""
    keywords = {
        "make_kind": (1, ["elder", "fields", "weak"]), "reshape": (1, ["add", "drop", "rename"]),
        "set_way": (3, ["names"]), "go": (1, ["beats"]), "redo": (1, ["frame"]),
    }
    many, names = keywords.get(word, (len(values), []))
    return getattr(hall, word)(*values[:many], **dict(zip(names, values[many:])))


def outcome_of(action, *values):
    try:
        return ("told", strict(action(*values)))
    except HallError as refusal:
        return ("refused", type(refusal).__name__, strict(getattr(refusal, "name", getattr(refusal, "field", None))))


class AgainstThePlainHall(unittest.TestCase):
    def both_tell_the_same(self, hall, plain):
        self.assertEqual(all_told(hall, WORDS), all_told(plain, WORDS))
        self.assertTrue(paths_hold(hall))

    def one_step(self, made, hall, plain):
        chance = made.chance.random()
        if chance < 0.05:
            self.assertEqual(outcome_of(hall.back), outcome_of(plain.back))
        elif chance < 0.08:
            self.assertEqual(outcome_of(hall.again), outcome_of(plain.again))
        elif chance < 0.12:
            deeds = tuple(made.deed() for _ in range(made.chance.randint(0, 3)))
            self.assertEqual(outcome_of(hall.together, deeds), outcome_of(plain.together, deeds))
        else:
            word, values = made.deed()
            self.assertEqual(outcome_of(by_hand, hall, word, values), outcome_of(plain.do, word, values))

    def check_row_of_deeds(self, seed, many):
        hall, plain = Hall(), PlainHall()
        made = Deeds(seed, hall)
        for word, values in made.began():
            self.assertEqual(outcome_of(by_hand, hall, word, values), outcome_of(plain.do, word, values))
        for _ in range(many):
            self.one_step(made, hall, plain)
            self.both_tell_the_same(hall, plain)
        text = hall_text(hall)
        read = read_hall(text)
        self.assertTrue(read == hall)
        self.assertEqual(hall_text(read), text)
        self.assertTrue(alike(hall, read))
        for _ in range(10):
            word, values = made.deed()
            self.assertEqual(outcome_of(by_hand, hall, word, values), outcome_of(by_hand, read, word, values))
        self.assertEqual(all_told(hall, WORDS), all_told(read, WORDS))
        self.assertTrue(alike(hall, read))

    def test_rows_of_deeds(self):
        for seed in range(40):
            with self.subTest(seed):
                self.check_row_of_deeds(seed, 120)


if __name__ == "__main__":
    unittest.main()
