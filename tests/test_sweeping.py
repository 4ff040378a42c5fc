"""Points 6.1 and 6.2: what leads to a thing; sweep, path_to, keeps."""

import unittest

from helper import HALTED, ME, NO_THINGS, HallTest, all_told, ask, name, path_end, val
from livehall.errors import NoThing


class SweepTest(HallTest):
    def setUp(self):
        super().setUp()
        self.hall.make_kind("box", fields=("left", "right", "ghost"), weak=("ghost",))
        self.hall.make_kind("bag", elder="box", fields=("more",))

    def makes(self, many, kind="box"):
        return [self.hall.make(kind) for _ in range(many)]

    def leads(self, thing, path):
        """That this is the path, that the thing stays when it is swept, and that it is gone without it."""
        self.same(self.hall.path_to(thing), path)
        self.hall.sweep()
        self.assertIn(thing[1], self.hall.things())
        self.same(path_end(self.hall, path), thing)

    def nothing_leads(self, thing):
        self.same((self.hall.path_to(thing), self.hall.keeps(thing)), (None, ()))
        self.assertIn(thing[1], self.hall.sweep())
        self.assertNotIn(thing[1], self.hall.things())


class WhatLeads(SweepTest):
    def test_nothing(self):
        one, two = self.makes(2)
        self.hall.put(two, "left", one)
        self.nothing_leads(one)

    def test_a_held_name(self):
        one, = self.makes(1)
        self.hall.hold("a", one)
        self.leads(one, (("held", "a"),))
        self.hall.hold("a", 5)
        self.nothing_leads(one)

    def test_a_name_that_was_let_go(self):
        one, = self.makes(1)
        self.hall.hold("a", one)
        self.hall.let_go("a")
        self.nothing_leads(one)

    def test_fields(self):
        one, two, three = self.makes(3, "bag")
        self.hall.hold("a", one)
        self.hall.put(one, "right", two)
        self.hall.put(two, "more", three)
        self.leads(three, (("held", "a"), "right", "more"))
        self.hall.put(one, "right", None)
        self.nothing_leads(three)

    def test_weak_fields_do_not(self):
        one, two, three = self.makes(3)
        self.hall.hold("a", one)
        self.hall.put(one, "ghost", two)
        self.hall.put(two, "left", three)
        self.same(self.hall.sweep(), (1, 2))
        self.same(self.hall.get(one, "ghost"), None)

    def test_a_weak_field_keeps_what_else_leads_to(self):
        one, two = self.makes(2)
        self.hall.hold("a", one)
        self.hall.put(one, "ghost", two)
        self.hall.put(one, "left", two)
        self.leads(two, (("held", "a"), "left"))
        self.same(self.hall.get(one, "ghost"), two)

    def test_a_weak_field_that_is_renamed_stays_weak(self):
        one, two = self.makes(2)
        self.hall.hold("a", one)
        self.hall.put(one, "ghost", two)
        self.hall.reshape("box", rename=(("ghost", "spook"),))
        self.nothing_leads(two)
        self.same(self.hall.get(one, "spook"), None)

    def test_a_field_that_is_weak_no_more(self):
        self.hall.make_kind("cup", fields=("ghost",))
        self.hall.make_kind("jar", elder="box")
        one, two = self.makes(2, "jar")
        self.hall.hold("a", one)
        self.hall.put(one, "ghost", two)
        self.hall.move_kind("jar", "cup")
        self.leads(two, (("held", "a"), "ghost"))
        self.hall.move_kind("jar", "box")
        self.nothing_leads(two)

    def test_a_dropped_field(self):
        one, two = self.makes(2)
        self.hall.hold("a", one)
        self.hall.put(one, "left", two)
        self.hall.reshape("box", drop=("left",))
        self.nothing_leads(two)

    def test_rings(self):
        one, two, three = self.makes(3)
        for thing, other in [(one, two), (two, three), (three, one)]:
            self.hall.put(thing, "left", other)
        self.hall.hold("a", two)
        self.leads(one, (("held", "a"), "left", "left"))
        self.hall.let_go("a")
        self.same(self.hall.sweep(), (0, 1, 2))

    def test_a_thing_that_leads_to_itself(self):
        one, = self.makes(1)
        self.hall.put(one, "left", one)
        self.nothing_leads(one)


class RunsLead(SweepTest):
    def halted(self, *rows, names=(), values=(), beats=1):
        self.hall.set_way("box", "act", rows, names=names)
        run = self.hall.start(self.hall.make("box"), "act", values)
        self.same(self.hall.go(run, beats=beats), HALTED)
        return run

    def test_a_run_that_has_not_begun(self):
        one, two = self.makes(2)
        run = self.hall.start(one, "act", (two, 5))
        self.leads(one, (("run", run, one),))
        self.leads(two, (("run", run, two),))
        self.hall.end(run)
        self.nothing_leads(one)

    def test_the_asked_ones(self):
        run = self.halted(("while", val(True), ()))
        self.leads(("thing", 0), (("run", run, ("thing", 0)),))

    def test_what_was_given_though_the_names_have_other_values(self):
        one, = self.makes(1)
        run = self.halted(("let", "a", val(1)), ("while", val(True), ()), names=("a",), values=(one,))
        self.leads(one, (("run", run, one),))
        self.same(self.hall.redo(run), HALTED)
        self.same(self.hall.waits(run), ("ask", ("thing", 1), "act", (one,)))
        self.leads(one, (("run", run, one),))

    def test_what_was_given_at_depth(self):
        self.way("box", "inner", ("let", "b", val(1)), ("while", val(True), ()), names=("b",))
        run = self.halted(("do", ask(ME, "inner", ("new", "bag"))), beats=2)
        made = ("thing", self.hall.things()[-1])
        self.leads(made, (("run", run, made),))
        self.hall.redo(run)
        self.same(self.hall.waits(run)[3], (made,))

    def test_the_asked_ones_at_depth(self):
        self.way("bag", "inner", ("while", val(True), ()))
        run = self.halted(("do", ask(("new", "bag"), "inner")), beats=2)
        made = ("thing", self.hall.things()[-1])
        self.leads(made, (("run", run, made),))

    def test_names(self):
        run = self.halted(("let", "a", ("new", "box")), ("while", val(True), ()))
        made = dict(self.hall.frames(run)[0][3])["a"]
        self.leads(made, (("run", run, made),))

    def test_a_name_that_has_another_value_now(self):
        run = self.halted(("let", "a", ("new", "box")), ("let", "a", val(1)), ("while", val(True), ()))
        self.nothing_leads(("thing", 1))

    def test_what_is_worked_out_and_needed(self):
        for e in [("same", ("new", "box"), ask(val(1), "x")), ("add", ("new", "box"), ask(val(1), "x")),
                  ask(("new", "box"), "y", ask(val(1), "x")), ask(val(1), "y", ("new", "box"), ask(val(1), "x")),
                  ("elder", "y", (("new", "box"), ask(val(1), "x"))),
                  ("same", ("new", "box"), ("add", val(1), ("mul", val(2), ask(val(1), "x"))))]:
            run = self.halted(("do", e))
            made = ("thing", self.hall.things()[-1])
            self.same(self.hall.kind_of(made), "box")
            self.leads(made, (("run", run, made),))

    def test_what_is_not_needed_any_more(self):
        for rows in [
            [("do", ("new", "box")), ("do", ask(val(1), "x"))],
            [("do", ("add", ("new", "box"), val(1))), ("do", ask(val(1), "x"))],
            [("do", ("same", ("same", ("new", "box"), val(1)), ask(val(1), "x")))],
            [("try", (("do", ("add", ("new", "box"), ("field", "nay"))),), "a", (("do", ask(val(1), "x")),))],
        ]:
            if rows[0][0] == "do" and rows[0][1][0] == "add":
                rows = [("try", (rows[0],), "a", ()), rows[1]]
            self.halted(*rows)
            self.nothing_leads(("thing", self.hall.things()[-1]))

    def test_what_it_halts_ahead_of(self):
        run = self.halted(("do", ask(("new", "box"), "x", ("new", "bag"))))
        one, two = self.hall.waits(run)[1], self.hall.waits(run)[3][0]
        self.leads(one, (("run", run, one),))
        self.leads(two, (("run", run, two),))
        self.hall.answer(run, None)
        self.same(self.hall.state(run), ("done", None))
        self.nothing_leads(one)

    def test_at_depth(self):
        self.way("box", "inner", ("while", val(True), ()), names=("b",))
        run = self.halted(("do", ("same", ("new", "box"), ask(ME, "inner", ("new", "bag")))), beats=2)
        self.same(self.hall.sweep(), ())
        self.same(len(self.hall.things()), 3)
        self.hall.give(run, None)
        self.same(self.hall.sweep(), (0, 1, 2))

    def test_ended_runs(self):
        for row, word in [(("give", name("a")), "done"), (("raise", name("a")), "failed")]:
            one, two = self.makes(2)
            self.hall.set_way("box", "act", (row,), names=("a", "b"))
            asked, = self.makes(1)
            run = self.hall.start(asked, "act", (one, two))
            self.same(self.hall.go(run), (word, one))
            self.leads(one, (("run", run, one),))
            self.assertNotIn(two[1], self.hall.things())
            self.assertNotIn(asked[1], self.hall.things())
            self.hall.end(run)
            self.nothing_leads(one)

    def test_ways_themselves_lead_to_nothing(self):
        self.way("box", "act", ("give", ("new", "box")))
        run = self.hall.start(self.hall.make("box"), "act")
        self.hall.go(run)
        self.hall.end(run)
        self.same(self.hall.sweep(), (0, 1))


class Sweep(SweepTest):
    def test_nothing_to_sweep(self):
        self.same(self.hall.sweep(), ())
        one, = self.makes(1)
        self.hall.hold("a", one)
        self.same((self.hall.sweep(), self.hall.things()), ((), (0,)))
        self.same(self.hall.deeds()[-1], ("sweep", ()))

    def test_numbers_rising(self):
        things = self.makes(12)
        self.hall.hold("a", things[3])
        self.hall.put(things[3], "left", things[10])
        self.same(self.hall.sweep(), (0, 1, 2, 4, 5, 6, 7, 8, 9, 11))
        self.same(self.hall.things(), (3, 10))

    def test_weak_fields_of_what_is_led_to_far_away(self):
        one, two, three = self.makes(3)
        self.hall.hold("a", one)
        self.hall.put(one, "left", two)
        self.hall.put(two, "ghost", three)
        self.hall.sweep()
        self.same((self.hall.get(two, "ghost"), self.hall.get(one, "left")), (None, two))

    def test_sweeping_again_changes_nothing(self):
        one, two, three = self.makes(3)
        self.hall.hold("a", one)
        self.hall.put(one, "ghost", three)
        self.hall.sweep()
        self.same((self.hall.sweep(), self.hall.things()), ((), (0,)))

    def test_back(self):
        one, two = self.makes(2)
        self.hall.hold("a", one)
        self.hall.put(one, "ghost", two)
        self.hall.put(two, "left", one)
        before = all_told(self.hall, but=["counts"])
        self.hall.sweep()
        self.hall.back()
        self.assertEqual(all_told(self.hall, but=["counts"]), before)
        self.hall.again()
        self.same((self.hall.things(), self.hall.get(one, "ghost")), ((0,), None))


class PathTo(SweepTest):
    def test_no_thing(self):
        self.makes(1)
        for wrong in NO_THINGS:
            self.refused(NoThing, None, self.hall.path_to, wrong)
            self.refused(NoThing, None, self.hall.keeps, wrong)

    def test_as_few_as_can_be(self):
        things = self.makes(6)
        for one, other in zip(things, things[1:]):
            self.hall.put(one, "left", other)
        self.hall.hold("a", things[0])
        self.same(self.hall.path_to(things[5]), (("held", "a"),) + ("left",) * 5)
        self.hall.put(things[1], "right", things[4])
        self.same(self.hall.path_to(things[5]), (("held", "a"), "left", "right", "left"))
        self.hall.put(things[0], "ghost", things[5])
        self.same(len(self.hall.path_to(things[5])), 4)
        run = self.hall.start(things[4], "act")
        self.same(self.hall.path_to(things[5]), (("run", run, things[4]), "left"))
        self.hall.hold("b", things[5])
        self.same(self.hall.path_to(things[5]), (("held", "b"),))

    def test_several_are_as_short(self):
        one, two = self.makes(2)
        self.hall.hold("a", one)
        self.hall.hold("b", one)
        self.hall.put(one, "left", two)
        self.hall.put(one, "right", two)
        self.assertIn(self.hall.path_to(two), [(("held", n), f) for n in "ab" for f in ("left", "right")])

    def test_a_very_long_path(self):
        things = self.makes(3000)
        for one, other in zip(things, things[1:]):
            self.hall.put(one, "left", other)
        self.hall.hold("a", things[0])
        self.same(len(self.hall.path_to(things[-1])), 3000)
        self.same(self.hall.sweep(), ())
        self.same(len(self.hall.keeps(things[1])), 2999)


class Keeps(SweepTest):
    def test_it_alone(self):
        one, two = self.makes(2)
        self.hall.hold("a", one)
        self.same((self.hall.keeps(one), self.hall.keeps(two)), ((0,), ()))

    def test_what_it_leads_to(self):
        one, two, three, four = self.makes(4)
        self.hall.hold("a", one)
        self.hall.put(one, "left", two)
        self.hall.put(two, "left", three)
        self.hall.put(two, "right", four)
        self.same((self.hall.keeps(one), self.hall.keeps(two)), ((0, 1, 2, 3), (1, 2, 3)))
        self.hall.put(one, "right", four)
        self.same(self.hall.keeps(two), (1, 2))
        self.hall.hold("b", three)
        self.same((self.hall.keeps(two), self.hall.keeps(one)), ((1,), (0, 1, 3)))

    def test_what_others_keep_by_rings(self):
        one, two, three = self.makes(3)
        for thing, other in [(one, two), (two, three), (three, one)]:
            self.hall.put(thing, "left", other)
        self.hall.hold("a", two)
        self.same([self.hall.keeps(thing) for thing in (one, two, three)], [(0,), (0, 1, 2), (0, 2)])

    def test_by_two_ways_neither_of_which_keeps_it(self):
        one, two, three, four = self.makes(4)
        self.hall.hold("a", one)
        self.hall.put(one, "left", two)
        self.hall.put(one, "right", three)
        self.hall.put(two, "left", four)
        self.hall.put(three, "left", four)
        self.same([self.hall.keeps(thing) for thing in (two, three, one)], [(1,), (2,), (0, 1, 2, 3)])

    def test_weak_fields_keep_nothing(self):
        one, two, three = self.makes(3)
        self.hall.hold("a", one)
        self.hall.hold("b", three)
        self.hall.put(one, "left", two)
        self.hall.put(three, "ghost", two)
        self.same(self.hall.keeps(one), (0, 1))

    def test_what_leads_to_it_by_runs(self):
        one, two = self.makes(2)
        self.hall.put(one, "left", two)
        self.hall.start(one, "act")
        self.same(self.hall.keeps(one), (0, 1))
        self.hall.start(5, "act", (two,))
        self.same(self.hall.keeps(one), (0,))

    def test_what_a_thing_keeps_goes_with_it(self):
        things = self.makes(8)
        links = [(0, "left", 1), (0, "right", 2), (1, "left", 3), (2, "left", 3), (2, "right", 4), (4, "left", 5),
                 (5, "left", 4), (3, "left", 6), (6, "left", 0), (7, "left", 5)]
        for one, f, other in links:
            self.hall.put(things[one], f, things[other])
        self.hall.hold("a", things[0])
        other = self.hall.make("box")
        self.hall.hold("b", other)
        for thing in things:
            kept = self.hall.keeps(thing)
            without = self.gone_without(thing, other)
            self.same(tuple(number for number in without if self.hall.path_to(("thing", number))), kept)

    def test_nothing_is_changed_by_it(self):
        one, two = self.makes(2)
        self.hall.hold("a", one)
        before = all_told(self.hall)
        self.hall.keeps(one)
        self.hall.path_to(two)
        self.assertEqual(all_told(self.hall), before)

    def gone_without(self, thing, other):
        """What is gone, in a moment that is taken back, when all that leads to the thing leads to another one."""
        self.hall.forward(thing, other)
        gone = tuple(sorted(self.hall.sweep() + (thing[1],)))
        self.hall.back()
        self.hall.back()
        return gone


if __name__ == "__main__":
    unittest.main()
