"""Points 4.1 to 4.3: things, their fields, held names, and things that are swapped and forwarded."""

import unittest

from helper import HALTED, ME, NO_NAMES, NO_THINGS, NO_VALUES, HallTest, ask, deep_tuple, field, name, val
from livehall.errors import BadName, BadValue, NoField, NoKind, NoName, NoThing, Same

VALUES = [0, 1, -1, 10 ** 30, 10 ** 5000, -10 ** 5000, True, False, None, "", " ", "~", "a'b\\c", "a" * 40,
          ("thing", 0), ("thing", 1)]


class ThingsTest(HallTest):
    def setUp(self):
        super().setUp()
        self.hall.make_kind("box", fields=("size", "next", "ghost"), weak=("ghost",))
        self.hall.make_kind("bag", elder="box", fields=("strap",))
        self.hall.make_kind("cup")


class Making(ThingsTest):
    def test_ordinary(self):
        hall = self.hall
        self.same([hall.make(kind) for kind in ("box", "bag", "thing")], [("thing", 0), ("thing", 1), ("thing", 2)])
        self.same([hall.kind_of(("thing", number)) for number in range(3)], ["box", "bag", "thing"])
        self.same([hall.get(("thing", 1), f) for f in hall.fields_of("bag")], [None] * 4)
        self.same((hall.things(), len(hall)), ((0, 1, 2), 3))

    def test_no_kind(self):
        for wrong in NO_NAMES + ["no"]:
            self.refused(NoKind, wrong, self.hall.make, wrong)
            self.refused(NoKind, wrong, self.hall.all_of, wrong)
            self.refused(NoKind, wrong, self.hall.all_of, wrong, below=True)

    def test_no_number_is_given_twice(self):
        hall = self.hall
        for _ in range(3):
            hall.make("box")
        hall.hold("a", ("thing", 0))
        self.same(hall.sweep(), (1, 2))
        self.same(hall.make("box"), ("thing", 3))
        hall.forward(("thing", 3), ("thing", 0))
        self.same(hall.make("box"), ("thing", 4))
        hall.let_go("a")
        hall.sweep()
        self.same((hall.things(), hall.make("box")), ((), ("thing", 5)))

    def test_all_of(self):
        hall = self.hall
        for kind in ["bag", "box", "cup", "bag", "box"]:
            hall.make(kind)
        self.same((hall.all_of("box"), hall.all_of("bag"), hall.all_of("thing")), ((1, 4), (0, 3), ()))
        self.same(hall.all_of("box", below=True), (0, 1, 3, 4))
        self.same(hall.all_of("thing", below=True), (0, 1, 2, 3, 4))
        self.same(hall.all_of("box", below=False), (1, 4))
        hall.move_kind("bag", "cup")
        self.same((hall.all_of("box", below=True), hall.all_of("cup", below=True)), ((1, 4), (0, 2, 3)))


class Fields(ThingsTest):
    def setUp(self):
        super().setUp()
        self.box, self.bag = self.hall.make("box"), self.hall.make("bag")

    def test_each_value(self):
        for value in VALUES:
            self.same(self.hall.put(self.bag, "size", value), None)
            self.assertEqual(self.hall.get(self.bag, "size"), value)
            self.assertIs(type(self.hall.get(self.bag, "size")), type(value))
            self.same(self.hall.get(self.box, "size"), None)

    def test_no_thing(self):
        for wrong in NO_THINGS:
            self.refused(NoThing, None, self.hall.kind_of, wrong)
            self.refused(NoThing, None, self.hall.get, wrong, "no")
            self.refused(NoThing, None, self.hall.put, wrong, "no", [])
        with self.assertRaises(NoThing):
            self.hall.kind_of(deep_tuple())

    def test_no_field(self):
        for wrong in NO_NAMES + ["strap", "no"]:
            self.refused(NoField, wrong, self.hall.get, self.box, wrong)
            self.refused(NoField, wrong, self.hall.put, self.box, wrong, [])

    def test_bad_value(self):
        for wrong in NO_VALUES:
            self.refused(BadValue, None, self.hall.put, self.box, "size", wrong)
        with self.assertRaises(BadValue):
            self.hall.put(self.box, "size", deep_tuple())

    def test_a_thing_that_is_gone(self):
        self.hall.forward(self.box, self.bag)
        self.refused(NoThing, None, self.hall.kind_of, self.box)
        self.refused(NoThing, None, self.hall.get, self.box, "size")
        self.refused(BadValue, None, self.hall.put, self.bag, "size", self.box)


class Held(ThingsTest):
    def test_ordinary(self):
        hall = self.hall
        thing = hall.make("box")
        self.same(hall.hold("b", thing), None)
        hall.hold("a", 5)
        hall.hold("ab", None)
        self.same(hall.held(), (("a", 5), ("ab", None), ("b", thing)))
        hall.hold("a", True)
        self.same(hall.held(), (("a", True), ("ab", None), ("b", thing)))
        self.same(hall.let_go("b"), None)
        self.same(hall.held(), (("a", True), ("ab", None)))

    def test_each_value(self):
        self.hall.make("box")
        self.hall.make("box")
        for value in VALUES:
            self.hall.hold("a", value)
            self.assertEqual(self.hall.held(), (("a", value),))
            self.assertIs(type(self.hall.held()[0][1]), type(value))

    def test_refusals_in_order(self):
        for wrong in NO_NAMES:
            self.refused(BadName, wrong, self.hall.hold, wrong, [])
        for wrong in NO_VALUES + [("thing", 0)]:
            self.refused(BadValue, None, self.hall.hold, "a", wrong)

    def test_no_name(self):
        self.hall.hold("a", 1)
        for wrong in NO_NAMES + ["b"]:
            self.refused(NoName, wrong, self.hall.let_go, wrong)
        with self.assertRaises(NoName):
            self.hall.let_go(deep_tuple())
        self.hall.let_go("a")
        self.refused(NoName, "a", self.hall.let_go, "a")


class LedElsewhere(ThingsTest):
    """Swapped and forwarded things, wherever anything leads to them."""

    def setUp(self):
        super().setUp()
        hall = self.hall
        self.one, self.two, self.third = hall.make("box"), hall.make("bag"), hall.make("box")
        hall.put(self.one, "size", 1)
        hall.put(self.two, "size", 2)
        hall.put(self.third, "next", self.one)
        hall.put(self.third, "ghost", self.one)
        hall.put(self.one, "next", self.two)
        hall.put(self.two, "next", self.two)
        hall.hold("a", self.one)
        hall.hold("b", self.two)

    def test_swap_in_fields_and_names(self):
        hall = self.hall
        self.same(hall.swap(self.one, self.two), None)
        self.same((hall.get(self.third, "next"), hall.get(self.third, "ghost")), (self.two, self.two))
        self.same((hall.get(self.one, "next"), hall.get(self.two, "next")), (self.one, self.one))
        self.same(hall.held(), (("a", self.two), ("b", self.one)))
        self.same((hall.kind_of(self.one), hall.kind_of(self.two)), ("box", "bag"))
        self.same((hall.get(self.one, "size"), hall.get(self.two, "size")), (1, 2))

    def test_swap_twice_is_as_before(self):
        hall = self.hall
        told = [hall.get(t, f) for t in (self.one, self.two, self.third) for f in ("size", "next", "ghost")]
        hall.swap(self.one, self.two)
        hall.swap(self.two, self.one)
        self.same([hall.get(t, f) for t in (self.one, self.two, self.third) for f in ("size", "next", "ghost")], told)

    def test_swap_with_itself(self):
        held = self.hall.held()
        self.same(self.hall.swap(self.one, self.one), None)
        self.same((self.hall.held(), self.hall.deeds()[-1]), (held, ("swap", (self.one, self.one))))

    def test_forward_in_fields_and_names(self):
        hall = self.hall
        self.same(hall.forward(self.one, self.two), None)
        self.same((hall.get(self.third, "next"), hall.get(self.third, "ghost")), (self.two, self.two))
        self.same(hall.held(), (("a", self.two), ("b", self.two)))
        self.same((hall.things(), hall.get(self.two, "size"), hall.get(self.two, "next")), ((1, 2), 2, self.two))

    def test_forward_to_what_it_leads_from(self):
        self.hall.forward(self.two, self.one)
        self.same(self.hall.get(self.one, "next"), self.one)

    def test_refusals_in_order(self):
        for wrong in NO_THINGS:
            for deed in [self.hall.swap, self.hall.forward]:
                self.refused(NoThing, None, deed, wrong, self.one)
                self.refused(NoThing, None, deed, self.one, wrong)
                self.refused(NoThing, None, deed, wrong, wrong)
        self.refused(Same, None, self.hall.forward, self.one, self.one)

    def run_with_all(self):
        """A run in which one stands everywhere: asked, given, in names, worked out and needed, and ahead of an ask."""
        hall = self.hall
        self.way("box", "outer",
                 ("let", "kept", name("given")),
                 ("let", "given", val(None)),
                 ("let", "told", ("same", name("kept"), ask(ME, "inner", name("kept"), ME))),
                 ("raise", name("told")), names=("given",))
        self.way("box", "inner", ("let", "a", val(None)), ("do", ask(name("b"), "last", name("b"), val(7))),
                 ("give", name("b")), names=("a", "b"))
        run = hall.start(self.one, "outer", (self.one,))
        hall.go(run, beats=2)
        self.same(hall.waits(run), ("ask", self.one, "last", (self.one, 7)))
        return run

    def check_run(self, run, now):
        hall = self.hall
        self.same(hall.waits(run), ("ask", now, "last", (now, 7)))
        self.same(hall.frames(run), (
            ("box", "inner", now, (("a", None), ("b", now))),
            ("box", "outer", now, (("given", None), ("kept", now))),
        ))

    def test_swap_in_runs(self):
        run = self.run_with_all()
        self.hall.swap(self.one, self.two)
        self.check_run(run, self.two)
        self.hall.swap(self.one, self.third)
        self.check_run(run, self.two)
        self.same(self.hall.answer(run, None), ("failed", True))

    def test_forward_in_runs(self):
        run = self.run_with_all()
        self.hall.forward(self.one, self.two)
        self.check_run(run, self.two)
        self.same(self.hall.answer(run, None), ("failed", True))

    def test_what_was_given_is_led_elsewhere_too(self):
        for deed in [self.hall.swap, self.hall.forward]:
            run = self.run_with_all()
            deed(self.one, self.two)
            self.same(self.hall.redo(run), HALTED)
            self.same(self.hall.waits(run), ("ask", self.two, "inner", (self.two, self.two)))
            self.hall.redo(run)
            self.same(self.hall.waits(run), ("ask", self.two, "outer", (self.two,)))
            self.same(self.hall.go(run), HALTED)
            self.one, self.two = self.two, self.third

    def test_what_is_worked_out_and_needed(self):
        hall = self.hall
        self.way("box", "act", ("give", ("same", name("a"), ask(name("b"), "stop"))), names=("a", "b"))
        for deed, other, told in [
            (hall.swap, self.two, True), (hall.swap, self.one, False), (hall.forward, self.two, True),
        ]:
            run = hall.start(self.third, "act", (self.one, self.two))
            hall.go(run)
            deed(self.one, self.two)
            self.same(hall.answer(run, other), ("done", told))

    def test_a_run_that_has_not_begun(self):
        run = self.hall.start(self.one, "act", (self.two, self.one, 5))
        self.hall.swap(self.one, self.two)
        self.same(self.hall.waits(run), ("ask", self.two, "act", (self.one, self.two, 5)))
        self.hall.forward(self.two, self.third)
        self.same(self.hall.waits(run), ("ask", self.third, "act", (self.one, self.third, 5)))

    def test_values_of_ended_runs(self):
        hall = self.hall
        self.way("box", "fine", ("give", ME))
        self.way("box", "wrong", ("raise", ME))
        done, failed = hall.start(self.one, "fine"), hall.start(self.one, "wrong")
        hall.go(done)
        hall.go(failed)
        hall.swap(self.one, self.two)
        self.same((hall.state(done), hall.state(failed)), (("done", self.two), ("failed", self.two)))
        hall.forward(self.two, self.third)
        self.same((hall.state(done), hall.state(failed)), (("done", self.third), ("failed", self.third)))

    def test_the_running_way_goes_on_with_the_other_as_the_asked(self):
        hall = self.hall
        self.way("box", "act", ("do", ask(ME, "stop")), ("put", "size", val(9)), ("give", field("strap")))
        run = hall.start(self.one, "act")
        hall.go(run)
        hall.swap(self.one, self.two)
        self.same(hall.answer(run, None), ("done", None))
        self.same((hall.get(self.one, "size"), hall.get(self.two, "size")), (1, 9))


if __name__ == "__main__":
    unittest.main()
