"""Points 7.1 to 7.3: deeds, back, again, counts, together, ==, len, str."""

import unittest

from helper import HALTED, ME, HallTest, all_told, ask, name, val
from livehall.errors import BadField, BadValue, HallError, InUse, NoBack, NoKind, NoThing
from livehall.halls import Hall
from livehall.likeness import alike
from livehall.writing import hall_text

ONE, TWO = ("thing", 0), ("thing", 1)
LOOP = (("while", val(True), (("put", "size", name("a")),)),)

# A row of deeds with each sort of them, all that is handed in, and what each tells.
ALL = [
    (("make_kind", ("box", "thing", ("size", "next"), ("next",))), None),
    (("make_kind", ("bag", "box", (), ())), None),
    (("make_kind", ("cup", "thing", (), ())), None),
    (("make", ("box",)), ONE),
    (("make", ("bag",)), TWO),
    (("put", (ONE, "size", TWO)), None),
    (("put", (ONE, "next", TWO)), None),
    (("hold", ("a", ONE)), None),
    (("hold", ("a", True)), None),
    (("hold", ("b", TWO)), None),
    (("set_way", ("box", "act", LOOP, ("a",))), None),
    (("set_way", ("box", "act", LOOP + (("do", ("new", "box")),), ("a",))), None),
    (("start", (ONE, "act", (1,))), 0),
    (("start", (TWO, "act", (TWO,))), 1),
    (("go", (0, 1)), HALTED),
    (("go", (1, 3)), HALTED),
    (("reshape", ("box", ("tag",), (), (("size", "many"),))), None),
    (("go", (0, 2)), HALTED),
    (("rename_kind", ("box", "crate")), None),
    (("move_kind", ("bag", "cup")), None),
    (("move_kind", ("bag", "crate")), None),
    (("redo", (0, 0)), HALTED),
    (("answer", (0, TWO)), ("done", TWO)),
    (("swap", (ONE, TWO)), None),
    (("give", (1, 5)), ("done", 5)),
    (("start", (ONE, "act", (False,))), 2),
    (("go", (2, 1)), HALTED),
    (("fault", (2, "x")), ("failed", "x")),
    (("drop_way", ("crate", "act")), None),
    (("drop_kind", ("cup",)), None),
    (("reshape", ("crate", (), ("many",), ())), None),
    (("end", (0,)), None),
    (("make", ("thing",)), ("thing", 2)),
    (("forward", (TWO, ("thing", 2))), None),
    (("let_go", ("a",)), None),
    (("sweep", ()), (2,)),
    (("go", (2, 0)), ("failed", "x")),
]


class DeedsTest(HallTest):
    def by_methods(self):
        """All deeds, done by their methods; told is what each tells."""
        hall = self.hall
        return [
            hall.make_kind("box", fields=("size", "next"), weak=("next",)), hall.make_kind("bag", elder="box"),
            hall.make_kind("cup"), hall.make("box"), hall.make("bag"), hall.put(ONE, "size", TWO),
            hall.put(ONE, "next", TWO), hall.hold("a", ONE), hall.hold("a", True), hall.hold("b", TWO),
            hall.set_way("box", "act", LOOP, names=("a",)),
            hall.set_way("box", "act", LOOP + (("do", ("new", "box")),), names=("a",)),
            hall.start(ONE, "act", (1,)), hall.start(TWO, "act", values=(TWO,)), hall.go(0), hall.go(1, beats=3),
            hall.reshape("box", add=("tag",), rename=(("size", "many"),)), hall.go(0, beats=2),
            hall.rename_kind("box", "crate"), hall.move_kind("bag", "cup"), hall.move_kind("bag", "crate"),
            hall.redo(0), hall.answer(0, TWO), hall.swap(ONE, TWO), hall.give(1, 5), hall.start(ONE, "act", (False,)),
            hall.go(2), hall.fault(2, "x"), hall.drop_way("crate", "act"), hall.drop_kind("cup"),
            hall.reshape("crate", drop=("many",)), hall.end(0), hall.make("thing"), hall.forward(TWO, ("thing", 2)),
            hall.let_go("a"), hall.sweep(), hall.go(2, beats=0),
        ]


class Deeds(DeedsTest):
    def test_all_that_was_handed_in_and_what_was_left_out(self):
        told = self.by_methods()
        self.same(told, [wanted for deed, wanted in ALL])
        self.same(self.hall.deeds(), tuple(deed for deed, wanted in ALL))
        self.same(self.hall.counts(), (len(ALL), 0))

    def test_each_left_out(self):
        hall = self.hall
        hall.make_kind("box")
        hall.reshape("box")
        hall.set_way("box", "act", ())
        thing = hall.make("box")
        run = hall.start(thing, "act")
        hall.go(run)
        self.same(hall.deeds(), (
            ("make_kind", ("box", "thing", (), ())), ("reshape", ("box", (), (), ())),
            ("set_way", ("box", "act", (), ())), ("make", ("box",)), ("start", (thing, "act", ())), ("go", (0, 1))))
        run = hall.start(thing, "act")
        self.way("box", "act", ("while", val(True), ()))
        hall.go(run)
        hall.redo(run)
        self.same(hall.deeds()[-1], ("redo", (run, 0)))

    def test_what_was_refused_is_none(self):
        self.hall.make_kind("box")
        for action in [lambda: self.hall.make_kind("box"), lambda: self.hall.make("no"), lambda: self.hall.end(0)]:
            with self.assertRaises(HallError):
                action()
        self.same(self.hall.deeds(), (("make_kind", ("box", "thing", (), ())),))

    def test_what_only_tells_is_none(self):
        self.by_methods()
        before = self.hall.deeds()
        all_told(self.hall)
        self.same(self.hall.deeds(), before)


class BackAndAgain(DeedsTest):
    def test_each_deed_is_taken_back_and_done_again(self):
        hall, before = self.hall, []
        for deed, told in ALL:
            before.append(all_told(hall, but=["counts"]))
            self.same(hall.together((deed,)), (told,))
        last = all_told(hall, but=["counts"])
        for at in reversed(range(len(ALL))):
            self.same(hall.back(), ALL[at][0][0])
            self.assertEqual(all_told(hall, but=["counts"]), before[at], ALL[at])
            self.same(hall.counts(), (at, len(ALL) - at))
        self.refused(NoBack, None, hall.back)
        for at in range(len(ALL)):
            self.assertEqual(all_told(hall, but=["counts"]), before[at])
            self.same(hall.again(), ALL[at][0][0])
            self.same(hall.counts(), (at + 1, len(ALL) - at - 1))
        self.assertEqual(all_told(hall, but=["counts"]), last)
        self.refused(NoBack, None, hall.again)

    def test_each_deed_by_itself_back_and_again(self):
        hall = self.hall
        for deed, told in ALL:
            before = all_told(hall, but=["counts"])
            hall.together((deed,))
            behind = all_told(hall)
            hall.back()
            self.assertEqual(all_told(hall, but=["counts"]), before, deed)
            hall.again()
            self.assertEqual(all_told(hall), behind, deed)

    def test_done_anew_behind_back_it_is_as_it_was(self):
        hall = self.hall
        for deed, told in ALL:
            hall.together((deed,))
            behind = all_told(hall)
            hall.back()
            self.same(hall.together((deed,)), (told,))
            self.assertEqual(all_told(hall), behind, deed)

    def test_nothing_to_take_back(self):
        self.refused(NoBack, None, self.hall.back)
        self.refused(NoBack, None, self.hall.again)
        self.hall.make_kind("box")
        self.refused(NoBack, None, self.hall.again)

    def test_not_again_if_one_was_done_since(self):
        hall = self.hall
        hall.make_kind("box")
        hall.make_kind("bag")
        hall.back()
        hall.make_kind("cup")
        self.same(hall.counts(), (2, 0))
        self.refused(NoBack, None, hall.again)
        self.same(hall.kinds(), ("thing", "box", "cup"))

    def test_a_refused_deed_is_not_done(self):
        hall = self.hall
        hall.make_kind("box")
        hall.back()
        self.refused(NoKind, "no", hall.make, "no")
        self.same((hall.counts(), hall.again(), hall.counts()), ((0, 1), "make_kind", (1, 0)))

    def test_a_deed_that_changes_nothing_is_done(self):
        hall = self.hall
        hall.make_kind("box")
        hall.hold("a", 1)
        hall.back()
        hall.reshape("box")
        self.refused(NoBack, None, hall.again)

    def test_numbers_are_as_if_never_given(self):
        hall = self.hall
        hall.make_kind("box")
        hall.make("box")
        hall.start(1, "act")
        hall.back()
        hall.back()
        self.same((hall.make("box"), hall.start(1, "act")), (("thing", 0), 0))

    def test_what_was_told_to_others_stays(self):
        hall = self.hall
        hall.make_kind("box")
        deeds = hall.deeds()
        hall.back()
        self.same((deeds, hall.deeds()), ((("make_kind", ("box", "thing", (), ())),), ()))


class Together(DeedsTest):
    def test_all_are_done(self):
        told = self.hall.together(tuple(deed for deed, wanted in ALL))
        self.same(told, tuple(wanted for deed, wanted in ALL))
        self.same((self.hall.counts(), self.hall.deeds()), ((len(ALL), 0), tuple(deed for deed, wanted in ALL)))
        other = Hall()
        for deed, wanted in ALL:
            other.together((deed,))
        self.assertTrue(other == self.hall)
        self.assertEqual(all_told(other), all_told(self.hall))

    def test_none_are_done_at_each_place(self):
        for at in range(len(ALL)):
            self.hall = Hall()
            for deed, wanted in ALL[:5]:
                self.hall.together((deed,))
            deeds = tuple(deed for deed, wanted in ALL[5:at + 5]) + (("make", ("no",)), ("sweep", ()))
            self.refused(NoKind, "no", self.hall.together, deeds)

    def test_the_same_refusal_is_raised(self):
        hall = self.hall
        hall.make_kind("box", fields=("a",))
        self.refused(BadField, "a", hall.together, (("make", ("box",)), ("make_kind", ("bag", "box", ("a",), ()))))
        self.refused(NoThing, None, hall.together, (("make", ("box",)), ("put", (("thing", 9), "a", 1))))
        self.refused(BadValue, None, hall.together, (("hold", ("a", ("thing", 0))), ("make", ("box",))))
        self.refused(InUse, None, hall.together, (("make", ("box",)), ("drop_kind", ("box",))))
        self.same((hall.things(), hall.make("box")), ((), ("thing", 0)))

    def test_what_can_be_done_again_stays_if_refused(self):
        hall = self.hall
        hall.make_kind("box")
        hall.make("box")
        hall.hold("a", ("thing", 0))
        hall.back()
        hall.back()
        self.refused(NoKind, "no", hall.together, (("make", ("box",)), ("make", ("box",)), ("make", ("no",))))
        self.same((hall.counts(), hall.again(), hall.again()), ((1, 2), "make", "hold"))

    def test_what_can_be_done_again_goes_if_done(self):
        hall = self.hall
        hall.make_kind("box")
        hall.back()
        hall.together((("hold", ("a", 1)),))
        self.refused(NoBack, None, hall.again)

    def test_none_at_all(self):
        hall = self.hall
        hall.make_kind("box")
        hall.back()
        self.same((hall.together(()), hall.counts()), ((), (0, 1)))
        self.same(hall.again(), "make_kind")

    def test_they_count_as_so_many(self):
        hall = self.hall
        hall.together((("make_kind", ("box", "thing", (), ())), ("make", ("box",)), ("make", ("box",))))
        self.same(hall.counts(), (3, 0))
        self.same((hall.back(), hall.things(), hall.back(), hall.back()), ("make", (0,), "make", "make_kind"))
        self.same(hall.counts(), (0, 3))

    def test_amid_runs(self):
        hall = self.hall
        hall.make_kind("box", fields=("size",))
        self.way("box", "act", ("do", ask(ME, "stop")), ("put", "size", val(1)))
        thing = hall.make("box")
        run = hall.start(thing, "act")
        hall.go(run)
        self.refused(NoKind, "no", hall.together, (
            ("reshape", ("box", (), (), (("size", "many"),))), ("answer", (run, 1)), ("make", ("no",))))
        self.same(hall.answer(run, 1), ("done", None))
        self.same(hall.get(thing, "size"), 1)

    def test_deeds_of_another_hall(self):
        self.by_methods()
        other = Hall()
        other.together(self.hall.deeds())
        self.assertTrue(other == self.hall)


class Equal(DeedsTest):
    def unequal(self, one, other):
        self.assertIs(one == other, False)
        self.assertIs(other == one, False)
        self.assertIs(one != other, True)

    def equal(self, one, other):
        self.assertIs(one == other, True)
        self.assertIs(other == one, True)
        self.assertIs(one != other, False)

    def test_same_deeds(self):
        one, other = Hall(), Hall()
        self.equal(one, one)
        for deed, told in ALL:
            one.together((deed,))
            self.unequal(one, other)
            other.together((deed,))
            self.equal(one, other)

    def test_those_that_can_be_done_again(self):
        one, other = Hall(), Hall()
        one.hold("a", 1)
        one.back()
        self.unequal(one, other)
        other.hold("a", 2)
        other.back()
        self.unequal(one, other)
        other.hold("a", 1)
        self.unequal(one, other)
        other.back()
        self.equal(one, other)

    def test_order(self):
        one, other = Hall(), Hall()
        for hall, names in [(one, "ab"), (other, "ba")]:
            for each in names:
                hall.hold(each, 1)
        self.unequal(one, other)
        self.assertIs(alike(one, other), True)

    def test_a_truth_is_no_whole_number(self):
        for first, second in [(True, 1), (False, 0)]:
            one, other = Hall(), Hall()
            one.hold("a", first)
            other.hold("a", second)
            self.unequal(one, other)
            one.back()
            other.back()
            self.unequal(one, other)
            one.set_way("thing", "act", (("do", val(first)),))
            other.set_way("thing", "act", (("do", val(second)),))
            self.unequal(one, other)

    def test_what_was_left_out_is_as_handed_in(self):
        one, other = Hall(), Hall()
        one.make_kind("box")
        other.make_kind("box", elder="thing", fields=(), weak=())
        self.equal(one, other)

    def test_other_things(self):
        hall = Hall()
        for thing in [None, 0, "", (), [], hall.deeds(), "1 kinds, 0 things, 0 runs", object()]:
            self.unequal(hall, thing)

    def test_bodies_deeper_than_calls(self):
        halls = [Hall(), Hall(), Hall()]
        for hall, last in zip(halls, [1, 1, True]):
            e = val(last)
            for _ in range(20000):
                e = ("add", val(1), e)
            hall.set_way("thing", "act", (("do", e),))
        self.equal(halls[0], halls[1])
        self.unequal(halls[0], halls[2])


class LenAndStr(DeedsTest):
    def test_len(self):
        self.same(len(self.hall), 0)
        self.hall.make("thing")
        self.hall.make("thing")
        self.same(len(self.hall), 2)
        self.hall.forward(ONE, TWO)
        self.same(len(self.hall), 1)

    def test_str(self):
        hall = self.hall
        self.same(str(hall), "1 kinds, 0 things, 0 runs")
        hall.make_kind("box")
        hall.make_kind("bag")
        for _ in range(12):
            hall.make("box")
        run = hall.start(ONE, "act")
        self.same(str(hall), "3 kinds, 12 things, 1 runs")
        hall.go(run)
        self.same(str(hall), "3 kinds, 12 things, 1 runs")
        hall.end(run)
        self.same(str(hall), "3 kinds, 12 things, 0 runs")

    def test_telling_changes_nothing(self):
        self.by_methods()
        text = hall_text(self.hall)
        self.same([(len(self.hall), str(self.hall), self.hall == self.hall) for _ in range(2)],
                  [(len(self.hall), str(self.hall), True)] * 2)
        self.same(hall_text(self.hall), text)


if __name__ == "__main__":
    unittest.main()
