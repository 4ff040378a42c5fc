"""Points 3.1 and 3.2: ways are set and dropped, where they are found, and who asks."""

import unittest

from helper import ME, NO_NAMES, HallTest, ask, deep_tuple, elder, field, name, val
from livehall.errors import BadBody, BadName, NoKind, NoWay

GIVE = (("give", val(1)),)
OTHER = (("give", val(2)),)


class WaysTest(HallTest):
    def setUp(self):
        super().setUp()
        self.hall.make_kind("box", fields=("size",))
        self.hall.make_kind("bag", elder="box")
        self.hall.make_kind("jar", elder="bag")
        self.hall.make_kind("cup")


class SetWay(WaysTest):
    def test_ordinary(self):
        body = (("give", ("add", name("one"), name("two"))),)
        self.same(self.hall.set_way("box", "act", body, names=("one", "two")), None)
        self.same(self.hall.way_of("box", "act"), (("one", "two"), body))
        self.same(self.hall.go(self.hall.start(self.hall.make("jar"), "act", (3, 4))), ("done", 7))

    def test_no_names_and_no_rows(self):
        self.hall.set_way("box", "act", ())
        self.same(self.hall.way_of("box", "act"), ((), ()))
        self.same(self.hall.go(self.hall.start(self.hall.make("box"), "act")), ("done", None))

    def test_set_anew(self):
        self.hall.set_way("box", "act", GIVE)
        self.hall.set_way("box", "act", OTHER, names=("a",))
        self.same(self.hall.way_of("box", "act"), (("a",), OTHER))

    def test_fields_need_not_be_there(self):
        self.hall.set_way("box", "act", (("put", "nothing", field("nowhere")),))
        self.same(self.hall.words("box"), ("act",))

    def test_on_thing_itself(self):
        self.hall.set_way("thing", "act", GIVE)
        self.same(self.hall.found("jar", "act"), "thing")

    def test_no_kind(self):
        for wrong in NO_NAMES + ["no"]:
            self.refused(NoKind, wrong, self.hall.set_way, wrong, "Bad", (1,), names=("A",))

    def test_bad_word(self):
        for wrong in NO_NAMES:
            self.refused(BadName, wrong, self.hall.set_way, "box", wrong, (1,), names=("A",))

    def test_bad_names(self):
        for wrong in NO_NAMES:
            self.refused(BadName, wrong, self.hall.set_way, "box", "act", (1,), names=("a", wrong, "b", "b"))

    def test_names_that_are_twice(self):
        self.refused(BadName, "b", self.hall.set_way, "box", "act", (1,), names=("a", "b", "c", "b"))
        self.refused(BadName, "a", self.hall.set_way, "box", "act", (1,), names=("a", "B", "a"))
        self.refused(BadName, "a", self.hall.set_way, "box", "act", (1,), names=("a", "b", "b", "a"))

    def test_bad_body(self):
        for wrong in [None, 1, "do", [], [("do", ME)], (("do",),), (("do", ["self"]),), ("do", ME), (("give", 1),),
                      (("give", val(("thing", 0))),), (("do", ("new", "Box")),), (("do", val("a" * 41)),)]:
            self.refused(BadBody, None, self.hall.set_way, "box", "act", wrong)
        with self.assertRaises(BadBody):
            self.hall.set_way("box", "act", deep_tuple())

    def test_kinds_that_are_not_there(self):
        body = (("do", ("new", "yak")), ("do", ("new", "box")), ("do", ask(ME, "a", ("new", "ant"))))
        self.refused(NoKind, "ant", self.hall.set_way, "box", "act", body)
        self.hall.make_kind("ant")
        self.refused(NoKind, "yak", self.hall.set_way, "box", "act", body)
        self.hall.make_kind("yak")
        self.hall.set_way("box", "act", body)

    def test_a_body_deeper_than_calls(self):
        e, body = val(1), ()
        for _ in range(20000):
            e = ("add", val(1), e)
            body = (("when", val(True), body, ()),)
        body = (("give", e),)
        self.hall.set_way("box", "act", body)
        self.same(self.hall.go(self.hall.start(self.hall.make("box"), "act")), ("done", 20001))
        self.hall.reshape("box", rename=(("size", "many"),))
        self.hall.rename_kind("cup", "mug")
        self.assertEqual(self.hall.askers("act"), ())
        self.assertEqual(self.hall.unheard("box"), ())

    def test_rows_deeper_than_calls(self):
        body = (("give", field("size")),)
        for at in range(20000):
            body = [(("when", val(True), body, ()),), (("try", body, "a", ()),)][at & 1]
        self.hall.set_way("box", "act", body)
        run = self.hall.start(self.hall.make("box"), "act")
        self.hall.reshape("box", rename=(("size", "many"),))
        self.same(self.hall.go(run), ("done", None))


class DropWay(WaysTest):
    def test_ordinary(self):
        self.hall.set_way("box", "act", GIVE)
        self.hall.set_way("bag", "act", OTHER)
        self.same(self.hall.drop_way("bag", "act"), None)
        self.same(self.hall.found("bag", "act"), "box")
        self.refused(NoWay, None, self.hall.drop_way, "bag", "act")
        self.hall.drop_way("box", "act")
        self.same(self.hall.found("bag", "act"), None)

    def test_refusals_in_order(self):
        self.hall.set_way("thing", "act", GIVE)
        for tell in [self.hall.drop_way, self.hall.way_of]:
            for wrong in NO_NAMES + ["no"]:
                self.refused(NoKind, wrong, tell, wrong, "nay")
            for wrong in NO_NAMES + ["act", "nay"]:
                self.refused(NoWay, None, tell, "box", wrong)
        with self.assertRaises(NoWay):
            self.hall.way_of("box", deep_tuple())


class WayOf(WaysTest):
    def test_kinds_and_fields_as_they_are_called_now(self):
        hall = self.hall
        hall.set_way("bag", "act", (("put", "size", ("new", "cup")), ("do", field("size"))), names=("size",))
        hall.rename_kind("cup", "mug")
        hall.reshape("box", rename=(("size", "many"),))
        hall.rename_kind("bag", "sack")
        wanted = (("size",), (("put", "many", ("new", "mug")), ("do", field("many"))))
        self.same(hall.way_of("sack", "act"), wanted)
        hall.rename_kind("mug", "glass")
        hall.rename_kind("sack", "mug")
        self.same(hall.way_of("mug", "act")[1], (("put", "many", ("new", "glass")), ("do", field("many"))))

    def test_set_behind_the_renaming(self):
        self.hall.reshape("box", rename=(("size", "many"),))
        self.hall.set_way("box", "act", (("do", field("size")),))
        self.same(self.hall.way_of("box", "act"), ((), (("do", field("size")),)))

    def test_a_moved_kind_is_below_no_more(self):
        self.hall.set_way("jar", "act", (("do", field("size")),))
        self.hall.move_kind("jar", "cup")
        self.hall.reshape("box", rename=(("size", "many"),))
        self.same(self.hall.way_of("jar", "act"), ((), (("do", field("size")),)))
        self.hall.move_kind("jar", "bag")
        self.hall.reshape("box", rename=(("many", "size"),))
        self.same(self.hall.way_of("jar", "act"), ((), (("do", field("size")),)))

    def test_truths_stay_truths(self):
        self.hall.set_way("box", "act", (("do", val(True)), ("do", val(1)), ("do", val(False)), ("do", val(0))))
        self.hall.reshape("box", rename=(("size", "many"),))
        self.hall.rename_kind("box", "crate")
        self.same(self.hall.way_of("crate", "act")[1],
                  (("do", val(True)), ("do", val(1)), ("do", val(False)), ("do", val(0))))


class Found(WaysTest):
    def test_the_nearest_of_the_line(self):
        hall = self.hall
        for kind in ["thing", "box", "jar"]:
            hall.set_way(kind, "act", GIVE)
        self.same([hall.found(kind, "act") for kind in hall.kinds()], ["thing", "box", "box", "jar", "thing"])
        hall.move_kind("bag", "cup")
        self.same(hall.found("bag", "act"), "thing")
        hall.set_way("cup", "act", GIVE)
        self.same((hall.found("bag", "act"), hall.found("jar", "act")), ("cup", "jar"))
        hall.rename_kind("cup", "mug")
        self.same(hall.found("bag", "act"), "mug")
        hall.drop_way("jar", "act")
        self.same(hall.found("jar", "act"), "mug")

    def test_what_runs_finds_the_same(self):
        hall = self.hall
        hall.set_way("box", "act", GIVE)
        hall.set_way("bag", "act", OTHER)
        thing = hall.make("jar")
        self.same(hall.go(hall.start(thing, "act")), ("done", 2))
        hall.move_kind("jar", "box")
        self.same(hall.go(hall.start(thing, "act")), ("done", 1))

    def test_none(self):
        for wrong in NO_NAMES + ["nay"]:
            self.same(self.hall.found("box", wrong), None)
        self.same(self.hall.found("box", deep_tuple()), None)

    def test_no_kind(self):
        for wrong in NO_NAMES + ["no"]:
            self.refused(NoKind, wrong, self.hall.found, wrong, "act")
            self.refused(NoKind, wrong, self.hall.words, wrong)
            self.refused(NoKind, wrong, self.hall.unheard, wrong)

    def test_words(self):
        hall = self.hall
        for kind, word in [("thing", "z"), ("box", "m"), ("bag", "a"), ("bag", "m"), ("cup", "c"), ("jar", "ab")]:
            hall.set_way(kind, word, GIVE)
        self.same([hall.words(kind) for kind in ("thing", "box", "bag", "jar", "cup")],
                  [("z",), ("m", "z"), ("a", "m", "z"), ("a", "ab", "m", "z"), ("c", "z")])


class Askers(WaysTest):
    def test_all_ways_that_ask(self):
        hall = self.hall
        hall.set_way("jar", "z", (("do", ask(ME, "act")),))
        hall.set_way("jar", "b", (("while", val(True), (("do", ("add", elder("act"), val(1))),)),))
        hall.set_way("box", "act", (("give", ask(ask(val(1), "act", val(2)), "other")),))
        hall.set_way("cup", "act", (("do", val("act")), ("let", "act", field("act"))))
        self.same(hall.askers("act"), (("box", "act"), ("jar", "b"), ("jar", "z")))
        self.same(hall.askers("other"), (("box", "act"),))
        hall.rename_kind("box", "zoo")
        self.same(hall.askers("act"), (("jar", "b"), ("jar", "z"), ("zoo", "act")))
        hall.drop_way("jar", "b")
        self.same(hall.askers("act"), (("jar", "z"), ("zoo", "act")))
        hall.drop_kind("jar")
        self.same(hall.askers("act"), (("zoo", "act"),))

    def test_none(self):
        for wrong in NO_NAMES + ["nay"]:
            self.same(self.hall.askers(wrong), ())

    def test_ways_that_run_but_were_dropped_are_none(self):
        run, thing = self.start(("do", ask(ME, "stop")))
        self.hall.go(run)
        self.hall.drop_way("box", "act")
        self.same(self.hall.askers("stop"), ())


class Unheard(WaysTest):
    def test_only_with_self_as_the_asked(self):
        hall = self.hall
        self.way("box", "act", ("do", ask(ME, "zed")), ("do", ask(val(1), "one")), ("do", ask(name("a"), "two")),
                 ("do", elder("three")), ("do", ask(ask(ME, "four"), "five")), ("do", ask(field("size"), "six")),
                 ("do", ask(ME, "act", ask(ME, "seven"))), ("do", ask(ME, "zed")))
        self.same(hall.unheard("box"), ("four", "seven", "zed"))

    def test_found_in_the_line_is_heard_but_in_heirs_is_not(self):
        hall = self.hall
        self.way("bag", "act", ("do", ask(ME, "up")), ("do", ask(ME, "own")), ("do", ask(ME, "down")))
        self.same(hall.unheard("bag"), ("down", "own", "up"))
        hall.set_way("thing", "up", GIVE)
        hall.set_way("bag", "own", GIVE)
        hall.set_way("jar", "down", GIVE)
        self.same(hall.unheard("bag"), ("down",))
        hall.set_way("cup", "down", GIVE)
        hall.move_kind("bag", "cup")
        self.same(hall.unheard("bag"), ())

    def test_own_ways_alone(self):
        self.way("box", "act", ("do", ask(ME, "zed")))
        self.same([self.hall.unheard(kind) for kind in ("thing", "box", "bag")], [(), ("zed",), ()])

    def test_a_way_with_another_number_of_names_is_found(self):
        self.way("box", "act", ("do", ask(ME, "zed")))
        self.way("box", "zed", names=("a",))
        self.same(self.hall.unheard("box"), ())


if __name__ == "__main__":
    unittest.main()
