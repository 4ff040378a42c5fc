"""The interface: names, parameters, those by keyword alone, defaults; and point 0.3 over the whole program."""

import copy
import inspect
import unittest

from helper import ME, HallTest, all_told, ask, deep_tuple, strict, val
from livehall import bodies, halls, likeness, writing
from livehall.errors import HallError
from livehall.halls import Hall

METHODS = """
make_kind(name, *, elder="thing", fields=(), weak=()) kinds() line(kind) heirs(kind) fields_of(kind) weak_of(kind)
reshape(kind, *, add=(), drop=(), rename=()) move_kind(kind, elder) rename_kind(kind, name) drop_kind(kind)
set_way(kind, word, body, *, names=()) drop_way(kind, word) way_of(kind, word) found(kind, word) words(kind)
askers(word) unheard(kind) make(kind) kind_of(thing) get(thing, field) put(thing, field, value) things()
all_of(kind, *, below=False) hold(name, value) let_go(name) held() swap(one, other) forward(one, other)
start(value, word, values=()) runs() end(run) go(run, *, beats=1) state(run) waits(run) frames(run)
give(run, value) answer(run, value) fault(run, value) redo(run, *, frame=0) sweep() path_to(thing) keeps(thing)
deeds() back() again() counts() together(deeds)
"""
FUNCTIONS = [
    (bodies, "is_body(thing) kinds_in(body) asked_in(body)"),
    (likeness, "alike(one, other)"),
    (writing, "thing_text(thing) read_thing(text) hall_text(hall) read_hall(text)"),
]


def listed(text):
    """The names and parameters that a list tells."""
    rows = " ".join(text.split()).replace("=()", "=EMPTY").split(")")
    return [row.strip().replace("=EMPTY", "=()").split("(", 1) for row in rows if row.strip()]


class Signatures(unittest.TestCase):
    def test_methods(self):
        rows = listed(METHODS)
        self.assertEqual(len(rows), 47)
        for word, parameters in rows:
            with self.subTest(word):
                method = Hall.__dict__[word]
                wanted = inspect.signature(eval("lambda self%s: 0" % (parameters and ", " + parameters)))
                self.assertEqual(str(inspect.signature(method)), str(wanted))

    def test_functions(self):
        for module, text in FUNCTIONS:
            for word, parameters in listed(text):
                with self.subTest(word):
                    wanted = inspect.signature(eval("lambda %s: 0" % parameters))
                    self.assertEqual(str(inspect.signature(getattr(module, word))), str(wanted))

    def test_halls(self):
        self.assertEqual(str(inspect.signature(Hall)), "()")
        for word in ["__len__", "__eq__", "__str__"]:
            self.assertIn(word, Hall.__dict__)
        self.assertIs(halls.Hall, Hall)


class Kinds(HallTest):
    """Of what kinds the values are that are told."""

    def test_no_lists(self):
        hall = self.hall
        hall.make_kind("box", fields=("size", "next"), weak=("next",))
        self.way("box", "act", ("do", ask(ME, "stop", val(1))), names=("a",))
        thing = hall.make("box")
        hall.hold("a", thing)
        hall.start(thing, "act", (1,))
        hall.go(0)
        told = [
            hall.kinds(), hall.line("box"), hall.heirs("thing"), hall.fields_of("box"), hall.weak_of("box"),
            hall.way_of("box", "act"), hall.words("box"), hall.askers("stop"), hall.unheard("box"), thing, hall.things(),
            hall.all_of("box"), hall.held(), hall.runs(), hall.state(0), hall.waits(0), hall.frames(0), hall.sweep(),
            hall.path_to(thing), hall.keeps(thing), hall.deeds(), hall.counts(), hall.together((("make", ("box",)),)),
        ]
        for each in told:
            self.assertIsInstance(each, tuple)
            self.assertNotIn("list", str(strict(each)))

    def test_truths(self):
        for told in [bodies.is_body(()), bodies.is_body(1), likeness.alike(Hall(), Hall()), Hall() == Hall(), Hall() == 1]:
            self.assertIsInstance(told, bool)


class HandedIn(HallTest):
    """What is handed in is not changed; asked the same again, the same is told; what is refused changes nothing."""

    def test_lists_in_wrong_places_stay_as_they_are(self):
        hall = self.hall
        hall.make_kind("box", fields=("size",))
        thing = hall.make("box")
        run = hall.start(thing, "act")
        for wrong in [["box"], [], [[1]], ("thing", [0])]:
            before = copy.deepcopy(wrong)
            for action in [
                lambda: hall.make_kind(wrong), lambda: hall.make_kind("a", elder=wrong), lambda: hall.line(wrong),
                lambda: hall.make_kind("a", fields=(wrong,)), lambda: hall.make_kind("a", weak=(wrong,)),
                lambda: hall.reshape(wrong), lambda: hall.reshape("box", add=(wrong,)), lambda: hall.reshape("box", drop=(wrong,)),
                lambda: hall.reshape("box", rename=((wrong, "a"),)), lambda: hall.reshape("box", rename=(("size", wrong),)),
                lambda: hall.move_kind(wrong, "box"), lambda: hall.move_kind("box", wrong), lambda: hall.rename_kind(wrong, "a"),
                lambda: hall.rename_kind("box", wrong), lambda: hall.drop_kind(wrong), lambda: hall.set_way(wrong, "a", ()),
                lambda: hall.set_way("box", wrong, ()), lambda: hall.set_way("box", "a", (wrong,)),
                lambda: hall.set_way("box", "a", (), names=(wrong,)), lambda: hall.drop_way("box", wrong),
                lambda: hall.make(wrong), lambda: hall.kind_of(wrong), lambda: hall.get(wrong, "size"), lambda: hall.get(thing, wrong),
                lambda: hall.put(wrong, "size", 1), lambda: hall.put(thing, wrong, 1), lambda: hall.put(thing, "size", wrong),
                lambda: hall.hold(wrong, 1), lambda: hall.hold("a", wrong), lambda: hall.let_go(wrong), lambda: hall.swap(wrong, thing),
                lambda: hall.forward(thing, wrong), lambda: hall.start(wrong, "act"), lambda: hall.start(1, wrong),
                lambda: hall.start(1, "act", (wrong,)), lambda: hall.end(wrong), lambda: hall.go(wrong), lambda: hall.give(run, wrong),
                lambda: hall.answer(run, wrong), lambda: hall.fault(run, wrong), lambda: hall.redo(wrong), lambda: hall.keeps(wrong),
                lambda: hall.path_to(wrong), lambda: hall.together((("make", ("box",)), ("make", (wrong,)))),
            ]:
                told = all_told(hall)
                with self.assertRaises(HallError):
                    action()
                self.assertEqual(all_told(hall), told)
                self.assertEqual(strict(wrong), strict(before))

    def test_deep_things_are_refused(self):
        hall, deep = self.hall, deep_tuple()
        hall.make_kind("box", fields=("size",))
        thing = hall.make("box")
        run = hall.start(thing, "act")
        for action in [
            lambda: hall.reshape("box", add=(deep, deep)), lambda: hall.reshape("box", drop=(deep, deep)),
            lambda: hall.reshape("box", rename=((deep, deep), (deep, deep))), lambda: hall.reshape("box", rename=(("size", deep),)),
            lambda: hall.set_way("box", "a", (), names=(deep, deep)), lambda: hall.put(thing, "size", ("thing", deep)),
            lambda: hall.put((deep, 0), "size", 1), lambda: hall.get(thing, deep), lambda: hall.go(deep), lambda: hall.end((deep,)),
            lambda: hall.answer(run, deep), lambda: hall.forward(thing, ("thing", deep)), lambda: hall.rename_kind("box", deep),
        ]:
            with self.assertRaises(HallError):
                action()
        self.assertEqual(hall.found("box", deep), None)
        self.assertEqual(hall.askers(deep), ())

    def test_asked_again_the_same_is_told(self):
        hall = self.hall
        hall.make_kind("box", fields=("size",))
        hall.hold("a", hall.make("box"))
        hall.go(hall.start(("thing", 0), "act"))
        self.assertEqual(all_told(hall), all_told(hall))


if __name__ == "__main__":
    unittest.main()
