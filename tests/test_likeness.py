"""Point 7.3: alike, by each part that it names."""

import unittest

from helper import HALTED, ME, ask, field, name, val
from livehall.halls import Hall
from livehall.likeness import alike


class LikenessTest(unittest.TestCase):
    def alike(self, one, other):
        for first, second in [(one, other), (other, one), (one, one), (other, other)]:
            self.assertIs(alike(first, second), True)

    def unlike(self, one, other):
        self.assertIs(alike(one, other), False)
        self.assertIs(alike(other, one), False)

    def halls(self):
        """Two halls with kinds, fields and ways; alike."""
        halls = [Hall(), Hall()]
        for hall in halls:
            hall.make_kind("box", fields=("size", "next", "ghost"), weak=("ghost",))
            hall.make_kind("bag", elder="box")
            hall.set_way("box", "act", (("let", "b", ask(ME, "stop", name("a"))), ("while", val(True), ())), names=("a",))
        self.alike(*halls)
        return halls


class Kinds(LikenessTest):
    def test_new_halls(self):
        self.alike(Hall(), Hall())

    def test_kinds_in_order(self):
        one, other = Hall(), Hall()
        one.make_kind("a")
        self.unlike(one, other)
        one.make_kind("b")
        other.make_kind("b")
        other.make_kind("a")
        self.unlike(one, other)
        one.drop_kind("a")
        self.unlike(one, other)
        one.make_kind("a")
        self.alike(one, other)

    def test_names(self):
        one, other = self.halls()
        one.rename_kind("bag", "sack")
        self.unlike(one, other)
        one.rename_kind("sack", "bag")
        self.alike(one, other)

    def test_elders(self):
        one, other = Hall(), Hall()
        for hall in (one, other):
            hall.make_kind("a")
            hall.make_kind("b")
            hall.make_kind("c", elder="a")
        one.move_kind("c", "b")
        self.unlike(one, other)
        other.move_kind("c", "b")
        self.alike(one, other)

    def test_fields(self):
        one, other = self.halls()
        one.reshape("bag", add=("x", "y"))
        self.unlike(one, other)
        other.reshape("bag", add=("y", "x"))
        self.unlike(one, other)
        other.reshape("bag", rename=(("x", "y"), ("y", "x")))
        self.alike(one, other)

    def test_whose_the_fields_are(self):
        one, other = Hall(), Hall()
        for hall in (one, other):
            hall.make_kind("a")
            hall.make_kind("b", elder="a")
        one.reshape("a", add=("x",))
        other.reshape("b", add=("x",))
        self.unlike(one, other)

    def test_weak_ones(self):
        one, other = Hall(), Hall()
        one.make_kind("a", fields=("x", "y"), weak=("x",))
        other.make_kind("a", fields=("x", "y"))
        self.unlike(one, other)
        other.drop_kind("a")
        other.make_kind("a", fields=("x", "y"), weak=("y", "x"))
        self.unlike(one, other)
        one.drop_kind("a")
        one.make_kind("a", fields=("x", "y"), weak=("x", "y"))
        self.alike(one, other)

    def test_ways(self):
        one, other = self.halls()
        one.set_way("bag", "w", (("do", val(1)),), names=("a",))
        self.unlike(one, other)
        other.set_way("box", "w", (("do", val(1)),), names=("a",))
        self.unlike(one, other)
        other.drop_way("box", "w")
        other.set_way("bag", "w", (("do", val(2)),), names=("a",))
        self.unlike(one, other)
        other.set_way("bag", "w", (("do", val(1)),), names=("b",))
        self.unlike(one, other)
        other.set_way("bag", "w", (("do", val(True)),), names=("a",))
        self.unlike(one, other)
        other.set_way("bag", "w", (("do", val(1)),), names=("a",))
        self.alike(one, other)

    def test_ways_set_in_another_order(self):
        one, other = Hall(), Hall()
        for hall, words in [(one, "abc"), (other, "cba")]:
            for word in words:
                hall.set_way("thing", word, (("do", val(word)),))
        self.alike(one, other)

    def test_ways_as_they_are_called_now(self):
        one, other = self.halls()
        one.set_way("bag", "w", (("do", field("size")), ("do", ("new", "box"))))
        one.reshape("box", rename=(("size", "many"),))
        one.rename_kind("box", "crate")
        other.reshape("box", rename=(("size", "many"),))
        other.rename_kind("box", "crate")
        other.set_way("bag", "w", (("do", field("many")), ("do", ("new", "crate"))))
        self.alike(one, other)

    def test_bodies_deeper_than_calls(self):
        halls = [Hall(), Hall(), Hall()]
        for hall, last in zip(halls, [1, 1, 2]):
            e = val(last)
            for _ in range(20000):
                e = ("add", val(1), e)
            hall.set_way("thing", "act", (("do", e),))
        self.alike(*halls[:2])
        self.unlike(*halls[1:])


class HeldAndThings(LikenessTest):
    def test_held_names(self):
        one, other = self.halls()
        one.hold("a", 1)
        self.unlike(one, other)
        other.hold("b", 1)
        self.unlike(one, other)
        other.let_go("b")
        for wrong in [2, True, None, "1", other.make("box")]:
            other.hold("a", wrong)
            self.unlike(one, other)
        other.hold("a", 1)
        self.alike(one, other)

    def test_other_numbers_of_things(self):
        one, other = self.halls()
        one.hold("a", one.make("box"))
        for _ in range(3):
            other.make("bag")
        other.hold("a", other.make("box"))
        self.alike(one, other)

    def test_kinds_of_things(self):
        one, other = self.halls()
        one.hold("a", one.make("box"))
        other.hold("a", other.make("bag"))
        self.unlike(one, other)

    def test_values_of_fields(self):
        for f in ["size", "ghost"]:
            one, other = self.halls()
            for hall in (one, other):
                hall.hold("a", hall.make("box"))
            for value in [1, True, "", "x"]:
                one.put(("thing", 0), f, value)
                self.unlike(one, other)
                other.put(("thing", 0), f, value)
                self.alike(one, other)
            other.put(("thing", 0), f, ("thing", 0))
            self.unlike(one, other)

    def test_just_one_in_the_place_of_each(self):
        one, other = self.halls()
        for hall in (one, other):
            hall.hold("a", hall.make("box"))
            hall.hold("b", hall.make("box"))
        self.alike(one, other)
        one.hold("b", ("thing", 0))
        self.unlike(one, other)
        other.hold("a", ("thing", 1))
        self.alike(one, other)

    def test_fields_lead_on(self):
        one, other = self.halls()
        for hall, numbers in [(one, (0, 1, 2)), (other, (2, 0, 1))]:
            for _ in range(3):
                hall.make("box")
            a, b, c = [("thing", number) for number in numbers]
            hall.put(a, "next", b)
            hall.put(b, "next", c)
            hall.put(c, "next", a)
            hall.put(c, "size", 7)
            hall.hold("a", a)
        self.alike(one, other)
        one.put(("thing", 2), "next", ("thing", 2))
        self.unlike(one, other)
        other.put(("thing", 1), "next", ("thing", 1))
        self.alike(one, other)
        one.put(("thing", 2), "size", 8)
        self.unlike(one, other)

    def test_weak_fields_lead_too(self):
        one, other = self.halls()
        for hall in (one, other):
            hall.hold("a", hall.make("box"))
            hall.put(("thing", 0), "ghost", hall.make("box"))
        self.alike(one, other)
        one.put(("thing", 1), "size", 1)
        self.unlike(one, other)

    def test_what_nothing_leads_to_does_not_count(self):
        one, other = self.halls()
        one.hold("a", one.make("box"))
        other.hold("a", other.make("box"))
        one.put(one.make("box"), "size", 5)
        one.make("bag")
        self.alike(one, other)
        one.sweep()
        self.alike(one, other)

    def test_more_deeds_to_the_same_end(self):
        one, other = self.halls()
        one.hold("a", 1)
        one.let_go("a")
        one.end(one.start(1, "act"))
        one.hold("c", 1)
        one.back()
        self.alike(one, other)

    def test_swapped_things(self):
        one, other = self.halls()
        for hall in (one, other):
            hall.hold("a", hall.make("box"))
            hall.hold("b", hall.make("bag"))
        one.swap(("thing", 0), ("thing", 1))
        self.unlike(one, other)
        other.hold("a", ("thing", 1))
        other.hold("b", ("thing", 0))
        self.alike(one, other)


class Runs(LikenessTest):
    def with_runs(self):
        one, other = self.halls()
        for hall in (one, other):
            hall.start(hall.make("box"), "act", (hall.make("bag"),))
        self.alike(one, other)
        return one, other

    def test_the_same_runs(self):
        one, other = self.halls()
        one.start(1, "act")
        self.unlike(one, other)
        other.end(other.start(1, "act"))
        self.unlike(one, other)
        other.start(1, "act")
        self.unlike(one, other)
        one.start(1, "act")
        one.end(0)
        self.alike(one, other)

    def test_what_is_asked_at_first(self):
        for value, word, values in [(2, "act", ()), (True, "act", ()), (1, "acts", ()), (1, "act", (1,))]:
            one, other = Hall(), Hall()
            one.start(1, "act")
            other.start(value, word, values)
            self.unlike(one, other)

    def test_places(self):
        one, other = self.with_runs()
        one.go(0)
        self.unlike(one, other)
        other.go(0)
        self.alike(one, other)
        one.answer(0, 1)
        self.unlike(one, other)
        other.answer(0, 1)
        self.alike(one, other)
        one.go(0)
        self.alike(one, other)

    def test_places_that_look_the_same(self):
        one, other = Hall(), Hall()
        for hall in (one, other):
            hall.set_way("thing", "act", (("do", ask(ME, "x")), ("do", ask(ME, "x"))))
            hall.start(hall.make("thing"), "act")
            hall.go(0)
        one.answer(0, None)
        self.assertEqual((one.waits(0), one.frames(0)), (other.waits(0), other.frames(0)))
        self.unlike(one, other)

    def test_names_in_frames(self):
        one, other = self.with_runs()
        for hall, answer in [(one, 1), (other, True)]:
            hall.go(0)
            hall.answer(0, answer)
        self.unlike(one, other)

    def test_what_was_given(self):
        one, other = Hall(), Hall()
        for hall, given in [(one, 1), (other, 2)]:
            hall.set_way("thing", "act", (("let", "a", val(0)), ("while", val(True), ())), names=("a",))
            hall.start(hall.make("thing"), "act", (given,))
            hall.go(0)
        self.assertEqual(one.frames(0), other.frames(0))
        self.unlike(one, other)

    def test_what_is_worked_out_and_needed(self):
        one, other = Hall(), Hall()
        for hall, size in [(one, 1), (other, 2)]:
            hall.make_kind("box", fields=("size",))
            hall.set_way("box", "act", (("do", ("add", field("size"), ask(ME, "x"))),))
            thing = hall.make("box")
            hall.put(thing, "size", size)
            hall.start(thing, "act")
            hall.go(0)
            hall.put(thing, "size", 0)
        self.unlike(one, other)

    def test_things_in_runs(self):
        one, other = self.with_runs()
        one.put(("thing", 1), "size", 5)
        self.unlike(one, other)
        other.put(("thing", 1), "size", 5)
        self.alike(one, other)
        one.hold("a", ("thing", 1))
        other.hold("a", ("thing", 0))
        self.unlike(one, other)

    def test_as_many_frames(self):
        one, other = Hall(), Hall()
        for hall in (one, other):
            hall.set_way("thing", "act", (("do", ask(ME, "act")),))
            hall.start(hall.make("thing"), "act")
        one.go(0, beats=3)
        other.go(0, beats=2)
        self.unlike(one, other)
        other.go(0)
        self.alike(one, other)

    def test_where_the_ways_stand(self):
        one, other = self.halls()
        for hall, kind in [(one, "box"), (other, "bag")]:
            hall.set_way(kind, "loop", (("while", val(True), ()),))
            hall.start(hall.make("bag"), "loop")
            hall.go(0)
            hall.drop_way(kind, "loop")
        self.unlike(one, other)

    def test_a_way_that_runs_on_as_it_began(self):
        one, other = Hall(), Hall()
        for hall, last in [(one, 1), (other, 2)]:
            hall.set_way("thing", "act", (("while", val(True), ()), ("give", val(last))))
            hall.start(hall.make("thing"), "act")
            hall.go(0)
            hall.set_way("thing", "act", ())
        self.unlike(one, other)

    def test_ended_runs(self):
        for deeds in [[("done", 1), ("failed", 1)], [("done", 1), ("done", 2)], [("failed", 1), ("failed", True)],
                      [("done", ("thing", 0)), ("done", None)]]:
            one, other = Hall(), Hall()
            for hall, (word, value) in zip((one, other), deeds):
                hall.make("thing")
                run = hall.start(1, "act")
                (hall.give if word == "done" else hall.fault)(run, value)
            self.unlike(one, other)

    def test_ended_otherwise_but_with_the_same(self):
        one, other = Hall(), Hall()
        for hall in (one, other):
            hall.make_kind("box")
            hall.make("box")
        one.set_way("box", "act", (("give", ME),))
        one.start(("thing", 0), "act")
        one.go(0)
        one.drop_way("box", "act")
        other.make("box")
        other.start(5, "word")
        other.give(0, ("thing", 1))
        self.alike(one, other)


class LedByTheSameDeeds(LikenessTest):
    def test_each_step(self):
        one, other = self.halls()
        for word, values in [
            ("make", ("box",)), ("make", ("bag",)), ("put", (("thing", 0), "next", ("thing", 1))),
            ("hold", ("a", ("thing", 0))), ("start", (("thing", 1), "act", (("thing", 0),))), ("go", (0, 1)),
            ("reshape", ("box", ("tag",), (), (("size", "many"),))), ("swap", (("thing", 0), ("thing", 1))),
            ("answer", (0, True)), ("redo", (0, 0)), ("go", (0, 1)), ("sweep", ()), ("give", (0, 3)),
        ]:
            one.together(((word, values),))
            other.together(((word, values),))
            self.alike(one, other)

    def test_runs_that_share_nothing_take_turns_in_any_order(self):
        halls = [Hall(), Hall()]
        for hall in halls:
            hall.make_kind("box", fields=("size", "next"))
            hall.set_way("box", "act", (
                ("put", "size", val(0)),
                ("while", ("under", field("size"), val(3)), (
                    ("put", "size", ("add", field("size"), val(1))), ("put", "next", ("new", "box")))),
                ("give", field("next"))))
            for at in range(3):
                hall.start(hall.make("box"), "act")
        for _ in range(6):
            for run in range(3):
                halls[0].go(run)
        for run in [2, 0, 1]:
            self.assertEqual(halls[1].go(run, beats=3), HALTED)
        for run in [1, 2, 0]:
            halls[1].go(run, beats=9)
        self.alike(*halls)


if __name__ == "__main__":
    unittest.main()
