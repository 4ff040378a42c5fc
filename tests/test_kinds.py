"""Points 2.1 to 2.5: kinds are made, told, reshaped, moved, renamed and dropped."""

import unittest

from helper import ME, NO_NAMES, HallTest, ask, deep_tuple, field, name, val
from livehall.errors import BadField, BadName, Fixed, InUse, Known, NoField, NoKind, Ring
from livehall.halls import Hall


class KindsTest(HallTest):
    def setUp(self):
        super().setUp()
        self.hall.make_kind("box", fields=("size", "next"), weak=("next",))
        self.hall.make_kind("bag", elder="box", fields=("strap",))
        self.hall.make_kind("cup")

    def has(self, thing):
        return {f: self.hall.get(thing, f) for f in self.hall.fields_of(self.hall.kind_of(thing))}


class NewHalls(unittest.TestCase):
    def test_only_thing_is_there(self):
        hall = Hall()
        self.assertEqual(hall.kinds(), ("thing",))
        self.assertEqual((hall.line("thing"), hall.heirs("thing")), (("thing",), ()))
        self.assertEqual((hall.fields_of("thing"), hall.weak_of("thing"), hall.words("thing")), ((), (), ()))
        self.assertEqual((hall.things(), hall.runs(), hall.held(), hall.deeds()), ((), (), (), ()))
        self.assertEqual((hall.counts(), len(hall), str(hall)), ((0, 0), 0, "1 kinds, 0 things, 0 runs"))

    def test_halls_share_nothing(self):
        one, other = Hall(), Hall()
        one.make_kind("box")
        one.make("box")
        one.hold("a", 1)
        one.start(1, "go")
        self.assertEqual((other.kinds(), other.things(), other.held(), other.runs()), (("thing",), (), (), ()))


class MakeKind(KindsTest):
    def test_ordinary(self):
        hall = self.hall
        self.same(hall.make_kind("jar", elder="bag", fields=("lid", "label", "rim"), weak=("rim", "lid")), None)
        self.same(hall.kinds(), ("thing", "box", "bag", "cup", "jar"))
        self.same(hall.line("jar"), ("jar", "bag", "box", "thing"))
        self.same(hall.fields_of("jar"), ("size", "next", "strap", "lid", "label", "rim"))
        self.same(hall.weak_of("jar"), ("next", "lid", "rim"))
        self.same((hall.heirs("bag"), hall.heirs("thing")), (("jar",), ("box", "cup")))

    def test_what_is_left_out(self):
        self.same(self.hall.line("cup"), ("cup", "thing"))
        self.same((self.hall.fields_of("cup"), self.hall.weak_of("cup")), ((), ()))

    def test_the_longest_name(self):
        self.hall.make_kind("abcdefghijkl", fields=("zzzzzzzzzzzz",))
        self.same(self.hall.fields_of("abcdefghijkl"), ("zzzzzzzzzzzz",))

    def test_bad_names(self):
        for wrong in NO_NAMES:
            self.refused(BadName, wrong, self.hall.make_kind, wrong)

    def test_known(self):
        for wrong in ["thing", "box", "bag"]:
            self.refused(Known, wrong, self.hall.make_kind, wrong)

    def test_no_elder(self):
        for wrong in NO_NAMES + ["jar", "a"]:
            self.refused(NoKind, wrong, self.hall.make_kind, "jar", elder=wrong)

    def test_bad_fields(self):
        for wrong in NO_NAMES:
            self.refused(BadField, wrong, self.hall.make_kind, "jar", fields=("a", wrong, "b"))

    def test_the_first_bad_field(self):
        self.refused(BadField, "B", self.hall.make_kind, "jar", fields=("a", "B", "C", "d", "d"))
        self.refused(BadField, "size", self.hall.make_kind, "jar", elder="box", fields=("a", "size", "C"))

    def test_twice_is_bad_at_its_first_place(self):
        self.refused(BadField, "a", self.hall.make_kind, "jar", fields=("a", "B", "a"))
        self.refused(BadField, "b", self.hall.make_kind, "jar", elder="box", fields=("a", "b", "size", "b"))
        self.refused(BadField, "size", self.hall.make_kind, "jar", elder="box", fields=("a", "size", "b", "b"))

    def test_fields_of_elders(self):
        for wrong in ["size", "next", "strap"]:
            self.refused(BadField, wrong, self.hall.make_kind, "jar", elder="bag", fields=("a", wrong))
        self.hall.make_kind("jar", elder="box", fields=("strap",))
        self.hall.reshape("thing", add=("top",))
        self.refused(BadField, "top", self.hall.make_kind, "tub", fields=("top",))

    def test_weak_that_is_no_field(self):
        for wrong in NO_NAMES + ["b", "size"]:
            self.refused(BadField, wrong, self.hall.make_kind, "jar", elder="box", fields=("a",), weak=("a", wrong, "c"))

    def test_the_first_refusal_told(self):
        make = self.hall.make_kind
        self.refused(BadName, "A", make, "A", elder="no", fields=("B",), weak=("c",))
        self.refused(Known, "box", make, "box", elder="no", fields=("B",), weak=("c",))
        self.refused(NoKind, "no", make, "jar", elder="no", fields=("B",), weak=("c",))
        self.refused(BadField, "B", make, "jar", fields=("B",), weak=("c",))
        self.refused(BadField, "c", make, "jar", fields=("b",), weak=("c", "d"))

    def test_deep_things_are_refused_too(self):
        deep = deep_tuple()
        with self.assertRaises(BadName):
            self.hall.make_kind(deep)
        with self.assertRaises(NoKind):
            self.hall.make_kind("jar", elder=deep)
        with self.assertRaises(BadField):
            self.hall.make_kind("jar", fields=(deep, deep))
        with self.assertRaises(BadField):
            self.hall.make_kind("jar", weak=(deep,))
        with self.assertRaises(NoKind):
            self.hall.line(deep)


class Told(KindsTest):
    def test_no_kind(self):
        hall = self.hall
        for tell in [hall.line, hall.heirs, hall.fields_of, hall.weak_of]:
            for wrong in NO_NAMES + ["no", "boxes"]:
                self.refused(NoKind, wrong, tell, wrong)

    def test_as_made(self):
        hall = self.hall
        hall.make_kind("zoo", elder="box")
        hall.make_kind("ant", elder="box")
        hall.move_kind("cup", "box")
        self.same(hall.kinds(), ("thing", "box", "bag", "cup", "zoo", "ant"))
        self.same(hall.heirs("box"), ("bag", "cup", "zoo", "ant"))
        hall.rename_kind("bag", "yak")
        self.same(hall.heirs("box"), ("yak", "cup", "zoo", "ant"))
        hall.drop_kind("cup")
        hall.make_kind("cup", elder="box")
        self.same(hall.kinds(), ("thing", "box", "yak", "zoo", "ant", "cup"))

    def test_the_same_is_told_again(self):
        hall = self.hall
        for _ in range(3):
            self.same((hall.kinds(), hall.line("bag"), hall.heirs("box")),
                      (("thing", "box", "bag", "cup"), ("bag", "box", "thing"), ("bag",)))


class Reshape(KindsTest):
    def setUp(self):
        super().setUp()
        hall = self.hall
        hall.make_kind("jar", elder="bag", fields=("lid",))
        self.box, self.bag, self.jar = [hall.make(kind) for kind in ("box", "bag", "jar")]
        for at, thing in enumerate([self.box, self.bag, self.jar]):
            hall.put(thing, "size", at)
            hall.put(thing, "next", thing)
        hall.put(self.jar, "strap", "long")
        hall.put(self.jar, "lid", True)

    def test_nothing(self):
        self.same(self.hall.reshape("box"), None)
        self.same(self.hall.fields_of("jar"), ("size", "next", "strap", "lid"))
        self.same(self.has(self.jar), {"size": 2, "next": self.jar, "strap": "long", "lid": True})
        self.same(self.hall.deeds()[-1], ("reshape", ("box", (), (), ())))

    def test_added(self):
        self.hall.reshape("box", add=("tag", "age"))
        self.same(self.hall.fields_of("jar"), ("size", "next", "tag", "age", "strap", "lid"))
        self.same(self.hall.weak_of("jar"), ("next",))
        self.same(self.has(self.box), {"size": 0, "next": self.box, "tag": None, "age": None})
        self.same(self.hall.get(self.jar, "age"), None)
        self.same(self.hall.get(self.jar, "lid"), True)

    def test_dropped(self):
        self.hall.reshape("box", drop=("next",))
        self.same((self.hall.fields_of("jar"), self.hall.weak_of("jar")), (("size", "strap", "lid"), ()))
        self.refused(NoField, "next", self.hall.get, self.jar, "next")
        self.same(self.hall.get(self.jar, "size"), 2)

    def test_renamed(self):
        self.hall.reshape("box", rename=(("next", "then"), ("size", "many")))
        self.same((self.hall.fields_of("jar"), self.hall.weak_of("jar")), (("many", "then", "strap", "lid"), ("then",)))
        self.same(self.has(self.jar), {"many": 2, "then": self.jar, "strap": "long", "lid": True})

    def test_renamed_and_back(self):
        self.way("bag", "act", ("put", "size", field("size")))
        before = self.hall.way_of("bag", "act")
        self.hall.reshape("box", rename=(("size", "many"),))
        self.same(self.hall.way_of("bag", "act"), ((), (("put", "many", field("many")),)))
        self.hall.reshape("box", rename=(("many", "size"),))
        self.same(self.hall.way_of("bag", "act"), before)
        self.same(self.hall.fields_of("box"), ("size", "next"))
        self.same(self.hall.get(self.jar, "size"), 2)

    def test_names_exchanged_at_once(self):
        self.way("jar", "act", ("put", "size", field("next")))
        self.hall.reshape("box", rename=(("next", "size"), ("size", "next")))
        self.same((self.hall.fields_of("box"), self.hall.weak_of("box")), (("next", "size"), ("size",)))
        self.same(self.has(self.box), {"next": 0, "size": self.box})
        self.same(self.hall.way_of("jar", "act"), ((), (("put", "next", field("size")),)))

    def test_all_in_one(self):
        self.hall.reshape("box", add=("next", "tag"), drop=("size",), rename=(("next", "size"),))
        self.same((self.hall.fields_of("box"), self.hall.weak_of("box")), (("size", "next", "tag"), ("size",)))
        self.same(self.has(self.box), {"size": self.box, "next": None, "tag": None})

    def test_dropped_and_added_anew(self):
        self.hall.reshape("box", add=("next",), drop=("next",))
        self.same((self.hall.fields_of("box"), self.hall.weak_of("box")), (("size", "next"), ()))
        self.same(self.hall.get(self.jar, "next"), None)

    def test_renamed_to_itself(self):
        self.hall.reshape("box", rename=(("size", "size"),))
        self.same((self.hall.fields_of("box"), self.hall.get(self.jar, "size")), (("size", "next"), 2))

    def test_thing_itself(self):
        self.hall.reshape("thing", add=("top",))
        self.same(self.hall.fields_of("jar"), ("top", "size", "next", "strap", "lid"))
        self.hall.put(self.jar, "top", 5)
        self.hall.reshape("thing", rename=(("top", "head"),))
        self.same(self.hall.get(self.jar, "head"), 5)

    def test_kinds_aside_are_as_they_were(self):
        self.hall.reshape("bag", drop=("strap",), add=("rope",))
        self.same(self.has(self.box), {"size": 0, "next": self.box})
        self.same(self.hall.fields_of("cup"), ())

    def test_ways_of_heirs_but_not_of_others(self):
        body = (("put", "size", field("size")), ("while", field("size"), (("when", field("size"), (), (
            ("try", (("put", "size", ask(field("size"), "size", field("size"))),), "size", (("do", name("size")),)),
        )),)))
        changed = (("put", "big", field("big")), ("while", field("big"), (("when", field("big"), (), (
            ("try", (("put", "big", ask(field("big"), "size", field("big"))),), "size", (("do", name("size")),)),
        )),)))
        for kind in self.hall.kinds():
            self.hall.set_way(kind, "size", body)
        self.hall.reshape("box", rename=(("size", "big"),))
        for kind in ("box", "bag", "jar"):
            self.same(self.hall.way_of(kind, "size"), ((), changed))
        for kind in ("thing", "cup"):
            self.same(self.hall.way_of(kind, "size"), ((), body))

    def test_texts_and_names_and_words_are_no_fields(self):
        body = (("let", "size", val("size")), ("do", ask(name("size"), "size")), ("give", ("elder", "size", ())))
        self.hall.set_way("box", "act", body, names=("size",))
        self.hall.reshape("box", rename=(("size", "big"),))
        self.same(self.hall.way_of("box", "act"), (("size",), body))

    def test_no_kind(self):
        for wrong in NO_NAMES + ["no"]:
            self.refused(NoKind, wrong, self.hall.reshape, wrong, add=("A",), drop=("a",))

    def test_no_field(self):
        for wrong in NO_NAMES + ["strap", "lid", "no"]:
            self.refused(NoField, wrong, self.hall.reshape, "box", drop=("size", wrong))
            self.refused(NoField, wrong, self.hall.reshape, "box", rename=(("size", "a"), (wrong, "b")))
        self.refused(NoField, "size", self.hall.reshape, "bag", drop=("size",))

    def test_twice_in_drop_and_rename(self):
        reshape = self.hall.reshape
        self.refused(NoField, "size", reshape, "box", drop=("size", "size"))
        self.refused(NoField, "size", reshape, "box", drop=("size", "no", "size"))
        self.refused(NoField, "next", reshape, "box", drop=("size", "next"), rename=(("next", "a"),))
        self.refused(NoField, "next", reshape, "box", rename=(("next", "a"), ("no", "b"), ("next", "c")))
        self.refused(NoField, "no", reshape, "box", drop=("no",), rename=(("nay", "a"),))

    def test_bad_fields(self):
        reshape = self.hall.reshape
        for wrong in NO_NAMES:
            self.refused(BadField, wrong, reshape, "box", add=("a", wrong))
            self.refused(BadField, wrong, reshape, "box", rename=(("size", "a"), ("next", wrong)))

    def test_fields_that_would_be_twice(self):
        reshape = self.hall.reshape
        self.refused(BadField, "size", reshape, "box", add=("a", "size"))
        self.refused(BadField, "a", reshape, "box", add=("a", "B", "a"))
        self.refused(BadField, "next", reshape, "box", rename=(("size", "next"),))
        self.refused(BadField, "a", reshape, "box", rename=(("size", "a"), ("next", "a")))
        self.refused(BadField, "a", reshape, "box", add=("a",), rename=(("size", "a"),))
        self.refused(BadField, "size", reshape, "box", add=("size",), rename=(("next", "size"),), drop=("size",))

    def test_fields_of_elders_and_heirs(self):
        reshape = self.hall.reshape
        for wrong in ["size", "lid"]:
            self.refused(BadField, wrong, reshape, "bag", add=("a", wrong))
            self.refused(BadField, wrong, reshape, "bag", rename=(("strap", wrong),))
        self.refused(BadField, "lid", reshape, "thing", add=("lid",))
        self.refused(BadField, "size", reshape, "jar", add=("size",))
        reshape("cup", add=("lid", "size"))

    def test_the_first_refusal_told(self):
        reshape = self.hall.reshape
        self.refused(NoField, "no", reshape, "box", add=("A",), drop=("no",), rename=(("nay", "B"),))
        self.refused(NoField, "nay", reshape, "box", add=("A",), rename=(("nay", "B"),))
        self.refused(BadField, "A", reshape, "box", add=("A",), rename=(("size", "B"),))
        self.refused(BadField, "B", reshape, "box", add=("a",), rename=(("size", "B"),))


class MoveKind(KindsTest):
    def setUp(self):
        super().setUp()
        hall = self.hall
        hall.make_kind("jar", elder="bag", fields=("lid",))
        hall.make_kind("tub", fields=("next", "hue"))
        self.jar = hall.make("jar")
        for at, f in enumerate(("size", "next", "strap", "lid")):
            hall.put(self.jar, f, at)

    def test_fields_that_come_of_it(self):
        hall = self.hall
        self.same(hall.move_kind("bag", "tub"), None)
        self.same(hall.line("jar"), ("jar", "bag", "tub", "thing"))
        self.same(hall.fields_of("jar"), ("next", "hue", "strap", "lid"))
        self.same(hall.weak_of("jar"), ())
        self.same(self.has(self.jar), {"next": 1, "hue": None, "strap": 2, "lid": 3})
        self.same((hall.heirs("tub"), hall.heirs("box")), (("bag",), ()))

    def test_back_again_what_was_lost_is_lost(self):
        self.hall.move_kind("bag", "tub")
        self.hall.move_kind("bag", "box")
        self.same(self.has(self.jar), {"size": None, "next": 1, "strap": 2, "lid": 3})

    def test_to_its_own_elder(self):
        self.hall.move_kind("bag", "box")
        self.same(self.has(self.jar), {"size": 0, "next": 1, "strap": 2, "lid": 3})

    def test_up_the_line(self):
        self.hall.move_kind("jar", "thing")
        self.same(self.has(self.jar), {"lid": 3})
        self.hall.move_kind("jar", "box")
        self.same(self.has(self.jar), {"size": None, "next": None, "lid": 3})

    def test_no_kind(self):
        for wrong in NO_NAMES + ["no"]:
            self.refused(NoKind, wrong, self.hall.move_kind, wrong, "nay")
            self.refused(NoKind, wrong, self.hall.move_kind, "bag", wrong)
        self.refused(NoKind, "no", self.hall.move_kind, "thing", "no")

    def test_fixed(self):
        self.refused(Fixed, None, self.hall.move_kind, "thing", "box")
        self.refused(Fixed, None, self.hall.move_kind, "thing", "thing")

    def test_ring(self):
        for elder in ["box", "bag", "jar"]:
            self.refused(Ring, None, self.hall.move_kind, "box", elder)

    def test_bad_field(self):
        hall = self.hall
        hall.make_kind("vat", fields=("a", "lid", "strap"))
        self.refused(BadField, "lid", hall.move_kind, "bag", "vat")
        self.refused(BadField, "lid", hall.move_kind, "jar", "vat")
        hall.make_kind("vats", elder="vat", fields=("b",))
        self.refused(BadField, "lid", hall.move_kind, "bag", "vats")
        hall.reshape("vat", drop=("lid",))
        self.refused(BadField, "strap", hall.move_kind, "bag", "vats")
        hall.move_kind("jar", "vats")
        self.same(self.has(self.jar), {"a": None, "strap": 2, "b": None, "lid": 3})


class RenameKind(KindsTest):
    def test_ordinary(self):
        hall = self.hall
        thing = hall.make("bag")
        self.same(hall.rename_kind("box", "crate"), None)
        self.same(hall.kinds(), ("thing", "crate", "bag", "cup"))
        self.same(hall.line("bag"), ("bag", "crate", "thing"))
        self.refused(NoKind, "box", hall.line, "box")
        hall.rename_kind("bag", "sack")
        self.same((hall.kind_of(thing), hall.all_of("sack")), ("sack", (0,)))
        hall.make_kind("box")
        self.same(hall.kinds(), ("thing", "crate", "sack", "cup", "box"))

    def test_ways_go_on_to_make_it(self):
        hall = self.hall
        self.way("cup", "act", ("do", ask(ME, "box", ("new", "box"))), ("give", ("new", "box")))
        self.way("bag", "act", ("when", ME, (("do", ("new", "cup")),), (("let", "box", ("new", "box")),)))
        hall.rename_kind("box", "crate")
        self.same(hall.way_of("cup", "act"),
                  ((), (("do", ask(ME, "box", ("new", "crate"))), ("give", ("new", "crate")))))
        self.same(hall.way_of("bag", "act"),
                  ((), (("when", ME, (("do", ("new", "cup")),), (("let", "box", ("new", "crate")),)),)))
        hall.make_kind("box", fields=("other",))
        run = hall.start(hall.make("cup"), "act")
        hall.go(run)
        hall.answer(run, None)
        self.same(hall.kind_of(hall.state(run)[1]), "crate")

    def test_refusals_in_order(self):
        rename = self.hall.rename_kind
        for wrong in NO_NAMES + ["no"]:
            self.refused(NoKind, wrong, rename, wrong, "Bad")
        self.refused(Fixed, None, rename, "thing", "Bad")
        self.refused(Fixed, None, rename, "thing", "box")
        for wrong in NO_NAMES:
            self.refused(BadName, wrong, rename, "box", wrong)
        for wrong in ["box", "thing", "bag"]:
            self.refused(Known, wrong, rename, "box", wrong)


class DropKind(KindsTest):
    def test_ordinary(self):
        self.way("cup", "act", ("do", ME))
        self.same(self.hall.drop_kind("cup"), None)
        self.same((self.hall.kinds(), self.hall.heirs("thing")), (("thing", "box", "bag"), ("box",)))
        self.hall.make_kind("cup")
        self.same(self.hall.words("cup"), ())

    def test_refusals_in_order(self):
        for wrong in NO_NAMES + ["no"]:
            self.refused(NoKind, wrong, self.hall.drop_kind, wrong)
        self.refused(Fixed, None, self.hall.drop_kind, "thing")

    def test_in_use_by_heirs(self):
        self.refused(InUse, None, self.hall.drop_kind, "box")
        self.hall.move_kind("bag", "cup")
        self.hall.drop_kind("box")

    def test_in_use_by_things(self):
        thing = self.hall.make("cup")
        self.refused(InUse, None, self.hall.drop_kind, "cup")
        self.hall.forward(thing, self.hall.make("bag"))
        self.hall.drop_kind("cup")

    def test_in_use_by_things_that_nothing_leads_to(self):
        self.hall.make("cup")
        self.refused(InUse, None, self.hall.drop_kind, "cup")
        self.hall.sweep()
        self.hall.drop_kind("cup")

    def test_in_use_by_a_way_of_any_kind(self):
        for kind in ["thing", "bag", "cup"]:
            self.way(kind, "act", ("try", (), "a", (("do", ask(ME, "b", ("new", "cup"))),)))
            self.refused(InUse, None, self.hall.drop_kind, "cup")
            self.hall.drop_way(kind, "act")
        self.hall.drop_kind("cup")

    def test_in_use_by_a_way_that_runs(self):
        hall = self.hall
        run, thing = self.start(("do", ask(ME, "stop")), ("do", ("new", "cup")))
        self.way("box", "stop", ("while", val(True), ()))
        hall.go(run)
        hall.drop_way("box", "act")
        self.refused(InUse, None, hall.drop_kind, "cup")
        hall.go(run)
        self.refused(InUse, None, hall.drop_kind, "cup")
        hall.end(run)
        hall.drop_kind("cup")

    def test_not_in_use_by_a_run_that_has_ended_or_not_begun(self):
        hall = self.hall
        done, thing = self.start(("when", val(True), (), (("do", ("new", "cup")),)))
        waiting = hall.start(thing, "act")
        self.same(hall.go(done), ("done", None))
        hall.drop_way("box", "act")
        hall.drop_kind("cup")
        self.same(hall.go(waiting), ("failed", "no way act"))

    def test_in_use_under_its_new_name(self):
        self.way("bag", "act", ("do", ("new", "cup")))
        self.hall.rename_kind("cup", "mug")
        self.refused(InUse, None, self.hall.drop_kind, "mug")


if __name__ == "__main__":
    unittest.main()
