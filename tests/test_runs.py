"""Points 5.1 to 5.6: runs, their halts, what rows and e do, faults, and what is told of runs."""

import unittest

from helper import HALTED, ME, NO_NAMES, NO_VALUES, HallTest, ask, deep_tuple, elder, field, name, val
from livehall.errors import BadName, BadValue, NoRun

NO_RUNS = [1, -1, 99, True, False, None, "0", (0,), [0], ("thing", 0)]


class RunsTest(HallTest):
    def setUp(self):
        super().setUp()
        self.hall.make_kind("box", fields=("size", "next"))
        self.hall.make_kind("bag", elder="box", fields=("strap",))
        self.hall.make_kind("cup")


class Starting(RunsTest):
    def test_numbers(self):
        hall = self.hall
        thing = hall.make("box")
        self.same([hall.start(thing, "act"), hall.start(5, "act", (1,)), hall.start(None, "act")], [0, 1, 2])
        self.same(hall.runs(), (0, 1, 2))
        self.same(hall.end(1), None)
        self.same((hall.runs(), hall.start(thing, "act"), hall.runs()), ((0, 2), 3, (0, 2, 3)))
        hall.end(3)
        self.same(hall.start(thing, "act"), 4)

    def test_it_halts_ahead_of_its_first_ask(self):
        thing = self.hall.make("box")
        for value in [thing, 5, None, "a", True]:
            run = self.hall.start(value, "act", (thing, 1, "x"))
            self.same(self.hall.state(run), HALTED)
            self.same(self.hall.waits(run), ("ask", value, "act", (thing, 1, "x")))
            self.same(self.hall.frames(run), ())

    def test_refusals_in_order(self):
        for wrong in NO_NAMES:
            self.refused(BadName, wrong, self.hall.start, [], wrong, ([],))
        for wrong in NO_VALUES:
            self.refused(BadValue, None, self.hall.start, wrong, "act")
            self.refused(BadValue, None, self.hall.start, 1, "act", (2, wrong, 3))
        with self.assertRaises(BadValue):
            self.hall.start(deep_tuple(), "act")

    def test_no_run(self):
        hall = self.hall
        hall.start(1, "act")
        for tell in [hall.end, hall.go, hall.state, hall.waits, hall.frames]:
            for wrong in NO_RUNS:
                self.refused(NoRun, None, tell, wrong)
        hall.end(0)
        for tell in [hall.end, hall.go, hall.state, hall.waits, hall.frames]:
            self.refused(NoRun, None, tell, 0)


class Halts(RunsTest):
    def test_ahead_of_each_ask(self):
        hall = self.hall
        self.way("box", "one", ("give", val(1)))
        run, thing = self.start(("let", "a", ask(ME, "one")), ("let", "b", ask(ME, "one")),
                                ("give", ("add", name("a"), name("b"))))
        self.same(hall.waits(run), ("ask", thing, "act", ()))
        self.same(hall.go(run), HALTED)
        self.same((hall.waits(run), hall.frames(run)), (("ask", thing, "one", ()), (("box", "act", thing, ()),)))
        self.same(hall.go(run), HALTED)
        self.same(hall.frames(run), (("box", "act", thing, (("a", 1),)),))
        self.same(hall.go(run), ("done", 2))

    def test_when_the_asked_and_the_values_are_there(self):
        hall = self.hall
        self.way("box", "one", ("give", ("add", name("a"), val(1))), names=("a",))
        run, thing = self.start(("give", ask(ME, "one", ask(ME, "one", ("add", val(1), val(1))))))
        hall.go(run)
        self.same(hall.waits(run), ("ask", thing, "one", (2,)))
        hall.go(run)
        self.same(hall.waits(run), ("ask", thing, "one", (3,)))
        self.same(hall.go(run), ("done", 4))

    def test_ahead_of_looking_for_the_way(self):
        hall = self.hall
        run, thing = self.start(("give", ask(ME, "later")))
        hall.go(run)
        self.way("box", "later", ("give", val("late")))
        self.same(hall.go(run), ("done", "late"))

    def test_an_ask_of_what_is_no_thing_halts_too(self):
        run, thing = self.start(("do", ask(val(5), "a", val(6))))
        self.hall.go(run)
        self.same(self.hall.waits(run), ("ask", 5, "a", (6,)))
        self.same(self.hall.go(run), ("failed", "no way a"))

    def test_each_time_ahead_of_the_e_of_a_while(self):
        hall = self.hall
        run, thing = self.start(
            ("let", "n", val(0)),
            ("while", ("under", name("n"), val(2)), (("let", "n", ("add", name("n"), val(1))),)),
            ("give", name("n")))
        told = []
        while hall.go(run) == HALTED:
            told.append((hall.waits(run), hall.frames(run)[0][3]))
        self.same(told, [(("while",), (("n", 0),)), (("while",), (("n", 1),)), (("while",), (("n", 2),))])
        self.same(hall.state(run), ("done", 2))

    def test_a_while_that_is_not_done_once(self):
        run, thing = self.start(("while", val(False), (("raise", val(1)),)))
        self.same(self.hall.go(run), HALTED)
        self.same(self.hall.waits(run), ("while",))
        self.same(self.hall.go(run), ("done", None))

    def test_an_ask_in_the_e_of_a_while(self):
        hall = self.hall
        self.way("box", "no", ("give", val(False)))
        run, thing = self.start(("while", ask(ME, "no"), ()))
        told = []
        while hall.go(run) == HALTED:
            told.append(hall.waits(run))
        self.same(told, [("while",), ("ask", thing, "no", ())])

    def test_while_in_while(self):
        hall = self.hall
        one_more = ("let", "n", ("add", name("n"), val(1)))
        run, thing = self.start(
            ("let", "n", val(0)),
            ("while", ("under", name("n"), val(4)), (
                one_more, ("while", ("same", name("n"), val(1)), (one_more,)), one_more)),
            ("give", name("n")))
        many = 0
        while hall.go(run) == HALTED:
            many += 1
        self.same((hall.state(run), many), (("done", 5), 6))

    def test_beats(self):
        hall = self.hall
        self.way("box", "act", ("while", val(True), (("put", "size", ("add", field("size"), val(1))),)))
        thing = hall.make("box")
        hall.put(thing, "size", 0)
        run = hall.start(thing, "act")
        self.same(hall.go(run, beats=0), HALTED)
        self.same(hall.waits(run), ("ask", thing, "act", ()))
        self.same(hall.go(run, beats=1), HALTED)
        self.same((hall.waits(run), hall.get(thing, "size")), (("while",), 0))
        self.same(hall.go(run, beats=3), HALTED)
        self.same(hall.get(thing, "size"), 3)
        hall.go(run)
        self.same(hall.get(thing, "size"), 4)

    def test_more_beats_than_there_are(self):
        run, thing = self.start(("give", val(1)))
        self.same(self.hall.go(run, beats=10 ** 40), ("done", 1))

    def test_a_run_that_has_ended_does_nothing_more(self):
        hall = self.hall
        done, thing = self.start(("put", "size", val(1)), ("give", val(1)))
        hall.go(done)
        failed = hall.start(thing, "nay")
        hall.go(failed)
        hall.put(thing, "size", 0)
        for run, told in [(done, ("done", 1)), (failed, ("failed", "no way nay"))]:
            for beats in [0, 1, 5]:
                self.same(hall.go(run, beats=beats), told)
            self.same((hall.state(run), hall.waits(run), hall.frames(run)), (told, None, ()))
        self.same((hall.get(thing, "size"), hall.runs()), (0, (done, failed)))

    def test_nothing_is_told_of_ways_that_a_fault_has_ended(self):
        hall = self.hall
        self.way("box", "inner", ("do", field("nay")))
        run, thing = self.start(("do", ("same", ("new", "cup"), ask(ME, "inner"))))
        self.same(hall.go(run, beats=2), ("failed", "no field nay"))
        self.same((hall.waits(run), hall.frames(run)), (None, ()))
        self.same(hall.sweep(), (0, 1))

    def test_runs_take_turns(self):
        hall = self.hall
        self.way("box", "act", ("put", "size", val(0)),
                 ("while", ("under", field("size"), name("n")), (("put", "size", ("add", field("size"), val(1))),)),
                 ("give", field("size")), names=("n",))
        things = [hall.make("box") for _ in range(3)]
        runs = [hall.start(thing, "act", (at + 2,)) for at, thing in enumerate(things)]
        for _ in range(20):
            for run in runs:
                hall.go(run)
        self.same([hall.state(run) for run in runs], [("done", 2), ("done", 3), ("done", 4)])


class Rows(RunsTest):
    def ends(self, told, *rows, **more):
        self.same(self.told_by(*rows, **more), told)

    def test_do(self):
        self.ends(("done", None), ("do", val(1)))
        self.ends(("failed", "no numbers"), ("do", ("add", val(1), val(None))))

    def test_let(self):
        self.ends(("done", 5), ("let", "a", val(5)), ("give", name("a")))
        self.ends(("done", 6), ("let", "a", val(5)), ("let", "a", ("add", name("a"), val(1))), ("give", name("a")))
        self.ends(("done", 7), ("let", "a", val(7)), ("give", name("a")), names=("a",), values=(1,))

    def test_put(self):
        run, thing = self.start(("put", "size", val(5)), ("give", field("size")))
        self.same(self.hall.go(run), ("done", 5))
        self.same(self.hall.get(thing, "size"), 5)

    def test_give_ends_the_way(self):
        self.ends(("done", 1), ("give", val(1)), ("raise", val(2)))
        self.ends(("done", 1), ("when", val(True), (("give", val(1)),), ()), ("raise", val(2)))
        self.ends(("done", 1), ("while", val(True), (("give", val(1)),)), ("raise", val(2)))
        self.ends(("done", 1), ("try", (("give", val(1)),), "a", ()), ("raise", val(2)))
        self.ends(("done", 1), ("try", (("raise", val(1)),), "a", (("give", name("a")),)), ("raise", val(2)))

    def test_give_ends_only_its_own_way(self):
        self.way("box", "one", ("give", val(1)), ("raise", val(2)))
        self.ends(("done", 3), ("do", ask(ME, "one")), ("give", val(3)))

    def test_when(self):
        for truth, told in [(True, "first"), (False, "second")]:
            self.ends(("done", told), ("when", val(truth), (("let", "a", val("first")),), (("let", "a", val("second")),)),
                      ("give", name("a")))
        self.ends(("done", None), ("when", val(True), (), (("raise", val(1)),)))

    def test_no_truth(self):
        for value in [None, 0, 1, "", "True"]:
            self.ends(("failed", "no truth"), ("when", val(value), (), ()))
            self.ends(("failed", "no truth"), ("while", val(value), ()))
        self.ends(("failed", "no truth"), ("when", ME, (), ()))
        self.ends(("failed", "no truth"), ("while", ("new", "cup"), ()))

    def test_while(self):
        self.ends(("done", 8), ("let", "a", val(1)),
                  ("while", ("under", name("a"), val(5)), (("let", "a", ("mul", name("a"), val(2))),)),
                  ("give", name("a")))

    def test_raise(self):
        for value in [None, 1, True, "a fault"]:
            self.ends(("failed", value), ("raise", val(value)), ("give", val(2)))
        run, thing = self.start(("raise", ME))
        self.same(self.hall.go(run), ("failed", thing))

    def test_try_without_fault(self):
        self.ends(("done", None), ("try", (("let", "b", val(1)),), "a", (("let", "c", val(2)),)),
                  ("give", name("a")))

    def test_try_takes_faults_of_its_own_way(self):
        self.ends(("done", 7), ("try", (("raise", val(7)), ("give", val(1))), "a", ()), ("give", name("a")))
        self.ends(("done", "no field lid"), ("try", (("do", field("lid")),), "a", ()), ("give", name("a")))
        self.ends(("done", "no truth"), ("try", (("when", val(1), (), ()),), "a", (("give", name("a")),)))
        self.ends(("done", "no numbers"),
                  ("try", (("while", ("under", val(1), val("")), ()),), "a", (("give", name("a")),)))
        self.ends(("done", "no way nay"), ("try", (("do", ask(ME, "nay")),), "a", (("give", name("a")),)))

    def test_try_takes_faults_of_ways_that_were_asked(self):
        self.way("box", "one", ("do", ask(ME, "two")), ("give", val(1)))
        self.way("box", "two", ("while", val(True), (("raise", val("deep")),)))
        self.ends(("done", "deep"), ("try", (("do", ("add", val(1), ask(ME, "one"))),), "a", (("give", name("a")),)))

    def test_the_nearest_try_takes_it(self):
        self.way("box", "one", ("try", (("raise", val(1)),), "a", (("give", ("add", name("a"), val(10))),)))
        self.ends(("done", 11), ("try", (("give", ask(ME, "one")),), "a", (("give", val("outer")),)))
        self.ends(("done", "inner"),
                  ("try", (("try", (("raise", val(1)),), "a", (("give", val("inner")),)),), "a",
                   (("give", val("outer")),)))

    def test_a_fault_in_the_second_body_goes_on(self):
        self.ends(("failed", 2), ("try", (("raise", val(1)),), "a", (("raise", val(2)),)))
        self.ends(("done", 2), ("try", (("try", (("raise", val(1)),), "a", (("raise", val(2)),)),), "b",
                                (("give", name("b")),)))
        self.ends(("failed", 3), ("try", (), "a", ()), ("raise", val(3)))

    def test_a_fault_ends_what_was_being_worked_out(self):
        self.ends(("done", 3), ("try", (("do", ("add", val(1), ("add", val(2), field("lid")))),), "a", ()),
                  ("give", ("add", val(1), val(2))))

    def test_try_in_while_and_while_in_try(self):
        self.ends(("done", 3), ("let", "n", val(0)),
                  ("while", ("under", name("n"), val(3)), (
                      ("let", "n", ("add", name("n"), val(1))), ("try", (("raise", val(1)),), "a", ()))),
                  ("give", name("n")))
        self.ends(("done", 2), ("let", "n", val(0)),
                  ("try", (("while", val(True), (
                      ("let", "n", ("add", name("n"), val(1))),
                      ("when", ("same", name("n"), val(2)), (("raise", name("n")),), ()))),), "a", ()),
                  ("give", name("a")))

    def test_a_way_whose_rows_are_all_done_ends_with_none(self):
        self.way("box", "empty")
        self.ends(("done", None))
        self.ends(("done", True), ("give", ("same", ask(ME, "empty"), val(None))))


class Es(RunsTest):
    def gives(self, told, e, **more):
        self.same(self.told_by(("give", e), **more), told)

    def test_value(self):
        for value in [0, -5, 10 ** 60, True, False, None, "", "a text"]:
            self.gives(("done", value), val(value))

    def test_self(self):
        run, thing = self.start(("give", ME))
        self.same(self.hall.go(run), ("done", thing))

    def test_name(self):
        self.gives(("done", 5), name("a"), names=("a",), values=(5,))
        self.gives(("done", None), name("b"), names=("a",), values=(5,))

    def test_names_are_the_ways_own(self):
        self.way("box", "one", ("let", "b", val(2)), ("give", name("a")))
        self.same(self.told_by(("let", "a", val(1)), ("give", ask(ME, "one"))), ("done", None))
        self.same(self.told_by(("let", "a", val(1)), ("do", ask(ME, "one")), ("give", name("b"))), ("done", None))

    def test_field(self):
        run, thing = self.start(("give", field("size")))
        self.hall.put(thing, "size", "big")
        self.same(self.hall.go(run), ("done", "big"))
        self.gives(("done", None), field("size"))

    def test_no_field(self):
        self.gives(("failed", "no field strap"), field("strap"))
        self.same(self.told_by(("put", "strap", val(1))), ("failed", "no field strap"))
        self.same(self.told_by(("put", "strap", ("add", val(1), val("")))), ("failed", "no numbers"))

    def test_ask_of_another(self):
        hall = self.hall
        self.way("cup", "both", ("give", ("sub", name("a"), name("b"))), names=("a", "b"))
        self.gives(("done", 4), ask(("new", "cup"), "both", val(9), val(5)))

    def test_ask_of_the_kind_of_the_asked(self):
        self.way("bag", "who", ("give", val("bag")))
        self.way("box", "who", ("give", val("box")))
        self.gives(("done", "bag"), ask(("new", "bag"), "who"))
        self.gives(("done", "box"), ask(("new", "box"), "who"))
        self.gives(("failed", "no way who"), ask(("new", "cup"), "who"))

    def test_no_way(self):
        self.way("box", "one", names=("a",))
        self.way("thing", "two")
        self.way("bag", "two", names=("a",))
        self.gives(("failed", "no way nay"), ask(ME, "nay"))
        self.gives(("failed", "no way one"), ask(ME, "one"))
        self.gives(("failed", "no way one"), ask(ME, "one", ME, ME))
        self.gives(("failed", "no way two"), ask(("new", "bag"), "two"))
        for value in [None, 1, True, "thing"]:
            self.gives(("failed", "no way one"), ask(val(value), "one", ME))
        self.same(self.hall.go(self.hall.start(("thing", 0), "one")), ("failed", "no way one"))
        self.same(self.hall.go(self.hall.start(None, "longestnames")), ("failed", "no way longestnames"))

    def test_new(self):
        hall = self.hall
        self.way("box", "act", ("let", "a", ("new", "cup")), ("give", ("new", "bag")))
        run = hall.start(hall.make("box"), "act")
        self.same(hall.go(run), ("done", ("thing", 2)))
        self.same([hall.kind_of(("thing", number)) for number in hall.things()], ["box", "cup", "bag"])
        self.same(hall.get(("thing", 2), "strap"), None)

    def test_same(self):
        values = [None, True, False, 0, 1, "", "a"]
        for one in values:
            for other in values:
                told = type(one) is type(other) and one == other
                self.gives(("done", told), ("same", val(one), val(other)))
        self.gives(("done", True), ("same", ME, ME))
        self.gives(("done", False), ("same", ("new", "cup"), ("new", "cup")))
        self.gives(("done", False), ("same", ME, val(None)))

    def test_numbers(self):
        self.gives(("done", 8), ("add", val(5), val(3)))
        self.gives(("done", 2), ("sub", val(5), val(3)))
        self.gives(("done", 15), ("mul", val(5), val(3)))
        self.gives(("done", 10 ** 40), ("mul", val(10 ** 20), val(10 ** 20)))
        for one, other in [(1, 2), (2, 1), (1, 1), (-2, -1)]:
            self.gives(("done", one < other), ("under", val(one), val(other)))

    def test_no_numbers(self):
        for word in ["add", "sub", "mul", "under"]:
            for wrong in [val(None), val(True), val(False), val("1"), val(""), ME]:
                self.gives(("failed", "no numbers"), (word, val(1), wrong))
                self.gives(("failed", "no numbers"), (word, wrong, val(1)))
                self.gives(("failed", "no numbers"), (word, wrong, wrong))

    def test_from_the_left_to_the_right(self):
        hall = self.hall
        self.way("box", "log", ("put", "size", ("add", ("mul", field("size"), val(10)), name("a"))),
                 ("give", name("a")), names=("a",))
        self.way("box", "three", names=("a", "b", "c"))

        def log(number):
            return ask(ME, "log", val(number))

        for e in [("add", log(1), ("sub", log(2), log(3))), ask(ME, "three", log(1), log(2), log(3)),
                  ("same", ("under", log(1), log(2)), log(3)), elder("three", log(1), log(2), log(3)),
                  ask(log(1), "x", log(2), log(3))]:
            run, thing = self.start(("try", (("do", e),), "a", ()))
            hall.put(thing, "size", 0)
            self.finish(run)
            self.same(hall.get(thing, "size"), 123)

    def test_both_are_worked_out_ahead_of_what_needs_them(self):
        run, thing = self.start(("do", ("add", val(""), ask(ME, "x"))))
        self.same(self.hall.go(run), HALTED)
        self.same(self.hall.answer(run, 1), ("failed", "no numbers"))

    def test_numbers_that_grow(self):
        run = self.told_by(("let", "n", val(10)), ("let", "k", val(0)),
                           ("while", ("under", name("k"), val(14)), (
                               ("let", "n", ("mul", name("n"), name("n"))), ("let", "k", ("add", name("k"), val(1))))),
                           ("give", name("n")))
        self.assertEqual(run, ("done", 10 ** (2 ** 14)))


class Elders(RunsTest):
    def test_from_the_elder_of_where_the_way_stands(self):
        hall = self.hall
        hall.make_kind("jar", elder="bag")
        self.way("thing", "who", ("give", val("thing")))
        self.way("box", "who", ("give", ("add", elder("num"), val(1))))
        self.way("thing", "num", ("give", val(1)))
        self.way("box", "num", ("give", ("add", elder("num"), val(10))))
        self.way("bag", "num", ("give", ("add", elder("num"), val(100))))
        self.same(self.finish(hall.start(hall.make("jar"), "num")), ("done", 111))
        self.same(self.finish(hall.start(hall.make("jar"), "who")), ("done", 2))

    def test_the_asked_is_asked_again(self):
        hall = self.hall
        self.way("box", "who", ("give", ME))
        self.way("bag", "who", ("give", elder("who")))
        thing = hall.make("bag")
        run = hall.start(thing, "who")
        hall.go(run)
        self.same(hall.waits(run), ("ask", thing, "who", ()))
        self.same(hall.go(run), ("done", thing))

    def test_values(self):
        self.way("box", "add", ("give", ("add", name("a"), name("b"))), names=("a", "b"))
        self.way("bag", "add", ("give", elder("add", name("a"), ("add", name("a"), name("a")))), names=("a",))
        run = self.hall.start(self.hall.make("bag"), "add", (2,))
        self.hall.go(run)
        self.same(self.hall.waits(run), ("ask", ("thing", 0), "add", (2, 4)))
        self.same(self.hall.go(run), ("done", 6))

    def test_no_way(self):
        hall = self.hall
        self.way("bag", "who", ("give", elder("who")))
        self.way("thing", "top", ("give", elder("top")))
        self.way("box", "one", names=("a",))
        self.way("bag", "one", ("give", elder("one")))
        for word in ["who", "top", "one"]:
            self.same(self.finish(hall.start(hall.make("bag"), word)), ("failed", "no way " + word))

    def test_another_word(self):
        self.way("box", "other", ("give", val("up")))
        self.way("bag", "other", ("give", val("own")))
        self.way("bag", "act", ("give", elder("other")))
        self.same(self.finish(self.hall.start(self.hall.make("bag"), "act")), ("done", "up"))

    def test_the_kind_is_gone(self):
        hall = self.hall
        self.way("box", "act", ("give", val(1)))
        self.way("bag", "act", ("give", elder("act")))
        bag, cup = hall.make("bag"), hall.make("cup")
        run = hall.start(bag, "act")
        hall.go(run)
        hall.forward(bag, cup)
        hall.drop_kind("bag")
        self.same(hall.frames(run), ((None, "act", cup, ()),))
        hall.make_kind("bag", elder="box")
        self.same(hall.frames(run), ((None, "act", cup, ()),))
        self.same(hall.go(run), ("failed", "no way act"))


class Told(RunsTest):
    def test_frames(self):
        hall = self.hall
        self.way("box", "outer", ("let", "z", val(1)), ("let", "b", val(None)), ("do", ask(name("a"), "inner", ME)),
                 names=("a",))
        self.way("thing", "inner", ("while", val(True), ()), names=("x",))
        box, bag = hall.make("box"), hall.make("bag")
        run = hall.start(bag, "outer", (box,))
        self.same(hall.frames(run), ())
        hall.go(run)
        outer = ("box", "outer", bag, (("a", box), ("b", None), ("z", 1)))
        self.same(hall.frames(run), (outer,))
        hall.go(run)
        self.same(hall.frames(run), (("thing", "inner", box, (("x", bag),)), outer))
        hall.rename_kind("box", "crate")
        self.same(hall.frames(run)[1][0], "crate")
        self.same(hall.frames(run)[0], ("thing", "inner", box, (("x", bag),)))

    def test_the_name_of_a_try(self):
        run, thing = self.start(("try", (("raise", val(1)),), "a", ()), ("while", val(True), ()))
        self.hall.go(run)
        self.same(self.hall.frames(run), (("box", "act", thing, (("a", 1),)),))

    def test_what_is_told_changes_nothing(self):
        hall = self.hall
        run, thing = self.start(("while", val(True), ()))
        hall.go(run)
        told = (hall.state(run), hall.waits(run), hall.frames(run), hall.runs(), hall.deeds())
        for _ in range(3):
            self.same((hall.state(run), hall.waits(run), hall.frames(run), hall.runs(), hall.deeds()), told)


class Depths(RunsTest):
    def test_ways_far_deeper_than_calls(self):
        hall = self.hall
        self.way("box", "down", ("when", ("under", val(0), name("n")), (
            ("give", ("add", val(1), ask(ME, "down", ("sub", name("n"), val(1))))),), ()), ("give", val(0)), names=("n",))
        thing = hall.make("box")
        run = hall.start(thing, "down", (5000,))
        self.same(hall.go(run, beats=5000), HALTED)
        self.same(len(hall.frames(run)), 5000)
        self.same(hall.path_to(thing), (("run", run, thing),))
        self.same(hall.go(run), ("done", 5000))

    def test_one_beat_at_a_time(self):
        hall = self.hall
        self.way("box", "down", ("do", ask(ME, "down")))
        run = hall.start(hall.make("box"), "down")
        for _ in range(5000):
            hall.go(run)
        self.same(len(hall.frames(run)), 5000)
        for _ in range(2500):
            hall.back()
        self.same(len(hall.frames(run)), 2500)
        self.same(hall.fault(run, "end"), ("failed", "end"))


if __name__ == "__main__":
    unittest.main()
