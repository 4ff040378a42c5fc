"""Point 0.2: kinds, fields, ways and things are changed amid runs, at each sort of halt."""

import unittest

from helper import HALTED, ME, HallTest, ask, elder, field, name, val
from livehall.errors import NoKind


class AmidTest(HallTest):
    def setUp(self):
        super().setUp()
        self.hall.make_kind("box", fields=("size", "next"))
        self.hall.make_kind("bag", elder="box", fields=("strap",))
        self.hall.make_kind("cup", fields=("size", "hue"))

    def set_ways(self, rows):
        self.way("bag", "first", *rows)
        self.way("bag", "asking", ("do", ask(ME, "stop")), *rows)
        self.way("bag", "looping", ("while", val(False), ()), *rows)
        self.way("bag", "deep", ("do", ask(ME, "inner")), *rows)
        self.way("bag", "inner", ("while", val(False), ()))
        self.way("bag", "working", ("let", "a", ("add", val(1), ask(ME, "stop"))), *rows)
        self.way("bag", "trying", ("try", (("do", ask(ME, "stop")),), "a", rows), ("give", val("untaken")))

    def halted_at_each_sort(self, *rows):
        """Runs that halt just ahead of these rows, at each sort of halt, each with how to go on."""
        hall = self.hall
        for word, beats, hand in [
            ("first", 0, lambda run: hall.go(run)),
            ("asking", 1, lambda run: hall.answer(run, 0)),
            ("looping", 1, lambda run: hall.go(run)),
            ("deep", 1, lambda run: hall.answer(run, 0)),
            ("deep", 2, lambda run: hall.go(run)),
            ("working", 1, lambda run: hall.answer(run, 0)),
            ("trying", 1, lambda run: hall.fault(run, 0)),
        ]:
            self.set_ways(rows)
            thing = hall.make("bag")
            run = hall.start(thing, word)
            hall.go(run, beats=beats)
            yield word, thing, run, hand


class FieldsAmidRuns(AmidTest):
    def test_renamed(self):
        for word, thing, run, hand in self.halted_at_each_sort(
                ("put", "size", ("add", field("size"), val(1))), ("give", field("size"))):
            with self.subTest(word):
                self.hall.put(thing, "size", 1)
                self.hall.reshape("box", rename=(("size", "many"),), add=("size",))
                self.same(hand(run), ("done", 2))
                self.same((self.hall.get(thing, "many"), self.hall.get(thing, "size")), (2, None))
                self.hall.reshape("box", drop=("size",), rename=(("many", "size"),))

    def test_renamed_and_back(self):
        for word, thing, run, hand in self.halted_at_each_sort(("give", field("size"))):
            with self.subTest(word):
                self.hall.put(thing, "size", 1)
                self.hall.reshape("box", rename=(("size", "many"),))
                self.hall.reshape("box", rename=(("many", "size"),))
                self.same(hand(run), ("done", 1))

    def test_dropped(self):
        for word, thing, run, hand in self.halted_at_each_sort(("give", field("size"))):
            with self.subTest(word):
                self.hall.reshape("box", drop=("size",))
                self.same(hand(run), ("failed", "no field size"))
                self.hall.reshape("box", add=("size",))

    def test_added(self):
        for word, thing, run, hand in self.halted_at_each_sort(("put", "tag", val(1)), ("give", field("tag"))):
            with self.subTest(word):
                self.hall.reshape("box", add=("tag",))
                self.same(hand(run), ("done", 1))
                self.hall.reshape("box", drop=("tag",))

    def test_a_way_of_an_elder_keeps_the_names_of_fields_of_heirs(self):
        self.way("box", "act", ("do", ask(ME, "stop")), ("give", field("strap")))
        thing = self.hall.make("bag")
        run = self.hall.start(thing, "act")
        self.hall.go(run)
        self.hall.reshape("bag", rename=(("strap", "rope"),))
        self.same(self.hall.answer(run, 1), ("failed", "no field strap"))

    def test_a_way_that_was_set_anew_goes_on_renamed(self):
        run, thing = self.start(("do", ask(ME, "stop")), ("give", field("size")))
        self.hall.put(thing, "size", 4)
        self.hall.go(run)
        self.way("box", "act", ("give", val("anew")))
        self.hall.reshape("box", rename=(("size", "many"),))
        self.same(self.hall.way_of("box", "act")[1], (("give", val("anew")),))
        self.same(self.hall.answer(run, 1), ("done", 4))

    def test_the_kind_was_moved_away(self):
        hall = self.hall
        run, thing = self.start(("do", ask(ME, "stop")), ("give", field("strap")), kind="bag")
        hall.put(thing, "strap", 4)
        hall.go(run)
        hall.move_kind("bag", "cup")
        hall.reshape("box", add=("rope",))
        hall.reshape("bag", rename=(("strap", "rope"),))
        self.same(hall.answer(run, 1), ("done", 4))

    def test_renamed_where_the_way_stands_whoever_is_asked(self):
        hall = self.hall
        run, thing = self.start(("do", ask(ME, "stop")), ("give", field("size")))
        other = hall.make("cup")
        hall.put(other, "size", "cup")
        hall.go(run)
        hall.swap(thing, other)
        hall.reshape("box", rename=(("size", "many"),))
        self.same(hall.answer(run, 1), ("failed", "no field many"))


class KindsAmidRuns(AmidTest):
    def test_renamed_kinds_are_still_made(self):
        for word, thing, run, hand in self.halted_at_each_sort(("give", ("new", "cup"))):
            with self.subTest(word):
                self.hall.rename_kind("cup", "mug")
                self.hall.make_kind("cup")
                self.same(self.hall.kind_of(hand(run)[1]), "mug")
                self.hall.drop_kind("cup")
                self.hall.rename_kind("mug", "cup")

    def test_renamed_where_the_kind_of_the_way_is_gone(self):
        hall = self.hall
        hall.make_kind("jar")
        run, thing = self.start(("do", ask(ME, "stop")), ("give", ("new", "cup")), kind="jar")
        hall.go(run)
        hall.forward(thing, hall.make("box"))
        hall.drop_kind("jar")
        hall.rename_kind("cup", "mug")
        hall.make_kind("cup")
        self.same(hall.kind_of(hall.answer(run, 1)[1]), "mug")

    def test_moved(self):
        for word, thing, run, hand in self.halted_at_each_sort(("put", "hue", field("size")), ("give", field("next"))):
            with self.subTest(word):
                self.hall.put(thing, "size", 3)
                self.hall.move_kind("bag", "cup")
                self.same(hand(run), ("failed", "no field next"))
                self.same((self.hall.get(thing, "hue"), self.hall.get(thing, "size")), (3, 3))
                self.hall.move_kind("bag", "box")

    def test_moved_ahead_of_an_ask_of_the_elder(self):
        hall = self.hall
        self.way("box", "who", ("give", val("box")))
        self.way("cup", "who", ("give", val("cup")))
        self.way("bag", "who", ("give", elder("who")))
        for moved, told in [("cup", "cup"), ("box", "box"), ("thing", "no way who")]:
            run = hall.start(hall.make("bag"), "who")
            hall.go(run)
            hall.move_kind("bag", moved)
            self.same(hall.go(run)[1], told)

    def test_the_elder_is_that_of_the_kind_where_the_way_stands(self):
        hall = self.hall
        hall.make_kind("jar", elder="bag")
        self.way("thing", "who", ("give", val("thing")))
        self.way("cup", "who", ("give", val("cup")))
        self.way("box", "who", ("give", elder("who")))
        run = hall.start(hall.make("jar"), "who")
        hall.go(run)
        hall.reshape("cup", drop=("size", "hue"))
        hall.move_kind("jar", "cup")
        self.same(hall.go(run), ("done", "thing"))
        run = hall.start(hall.make("bag"), "who")
        hall.go(run)
        hall.move_kind("box", "cup")
        self.same(hall.go(run), ("done", "cup"))

    def test_renamed_kinds_in_frames(self):
        run, thing = self.start(("do", ask(ME, "stop")))
        self.hall.go(run)
        self.hall.rename_kind("box", "crate")
        self.same(self.hall.frames(run), (("crate", "act", thing, ()),))
        self.refused(NoKind, "box", self.hall.line, "box")


class WaysAmidRuns(AmidTest):
    def test_a_way_that_has_begun_goes_on_as_it_began(self):
        for word, thing, run, hand in self.halted_at_each_sort(("give", val("old"))):
            if word == "first":
                continue
            with self.subTest(word):
                self.way("bag", word, ("give", val("new")))
                self.same(hand(run), ("done", "old"))

    def test_a_way_that_was_dropped_goes_on(self):
        for word, thing, run, hand in self.halted_at_each_sort(("give", val("old"))):
            if word == "first":
                continue
            with self.subTest(word):
                self.hall.drop_way("bag", word)
                self.same(hand(run), ("done", "old"))

    def test_an_ask_finds_the_way_as_it_is_then(self):
        hall = self.hall
        self.way("box", "who", ("give", val("old")))
        run, thing = self.start(("give", ask(ME, "who")), kind="bag")
        hall.go(run)
        self.way("bag", "who", ("give", val("nearer")))
        self.same(hall.go(run), ("done", "nearer"))
        run = hall.start(thing, "act")
        hall.go(run)
        hall.drop_way("bag", "who")
        self.same(hall.go(run), ("done", "old"))
        run = hall.start(thing, "act")
        hall.go(run)
        self.way("box", "who", names=("a",))
        self.same(hall.go(run), ("failed", "no way who"))

    def test_a_running_way_asks_itself_anew(self):
        hall = self.hall
        self.way("box", "act", ("give", ("add", val(1), ask(ME, "act"))))
        run = hall.start(hall.make("box"), "act")
        hall.go(run, beats=3)
        self.way("box", "act", ("give", val(10)))
        self.same(hall.go(run), ("done", 13))


class ThingsAmidRuns(AmidTest):
    def test_fields_put_by_hand(self):
        for word, thing, run, hand in self.halted_at_each_sort(("give", field("size"))):
            with self.subTest(word):
                self.hall.put(thing, "size", "by hand")
                self.same(hand(run), ("done", "by hand"))

    def test_swapped(self):
        for word, thing, run, hand in self.halted_at_each_sort(("put", "size", val(1)), ("give", ME)):
            with self.subTest(word):
                other = self.hall.make("bag")
                self.hall.swap(thing, other)
                self.same(hand(run), ("done", other))
                self.same((self.hall.get(thing, "size"), self.hall.get(other, "size")), (None, 1))

    def test_forwarded(self):
        for word, thing, run, hand in self.halted_at_each_sort(("put", "size", val(1)), ("give", ME)):
            with self.subTest(word):
                other = self.hall.make("bag")
                self.hall.forward(thing, other)
                self.same(hand(run), ("done", other))
                self.same(self.hall.get(other, "size"), 1)

    def test_swapped_for_a_thing_of_another_kind(self):
        hall = self.hall
        self.way("cup", "who", ("give", val("cup")))
        run, thing = self.start(("give", ask(ME, "who")))
        other = hall.make("cup")
        hall.go(run)
        hall.swap(thing, other)
        self.same(hall.frames(run), (("box", "act", other, ()),))
        self.same(hall.go(run), ("done", "cup"))

    def test_swept(self):
        for word, thing, run, hand in self.halted_at_each_sort(("give", ME)):
            with self.subTest(word):
                self.hall.make("box")
                self.hall.sweep()
                self.same(hand(run), ("done", thing))


class TakenBackAmidRuns(AmidTest):
    def test_all_is_as_if_never_done(self):
        hall = self.hall
        for word, thing, run, hand in self.halted_at_each_sort(("put", "size", val(1)), ("give", field("size"))):
            with self.subTest(word):
                told = (hall.state(run), hall.waits(run), hall.frames(run), hall.get(thing, "size"))
                hall.reshape("box", rename=(("size", "many"),))
                ended = hand(run)
                self.same((ended, hall.get(thing, "many")), (("done", 1), 1))
                hall.back()
                hall.back()
                self.same((hall.state(run), hall.waits(run), hall.frames(run), hall.get(thing, "size")), told)
                hall.again()
                hall.again()
                self.same((hall.state(run), hall.get(thing, "many")), (("done", 1), 1))
                hall.reshape("box", rename=(("many", "size"),))

    def test_a_run_goes_on_otherwise_behind_back(self):
        hall = self.hall
        run, thing = self.start(("let", "a", ask(ME, "stop")), ("while", name("a"), (("raise", val("x")),)))
        hall.go(run)
        self.same(hall.answer(run, True), HALTED)
        self.same(hall.go(run), ("failed", "x"))
        hall.back()
        hall.back()
        self.same(hall.answer(run, False), HALTED)
        self.same(hall.go(run), ("done", None))


if __name__ == "__main__":
    unittest.main()
