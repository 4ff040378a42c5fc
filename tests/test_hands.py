"""Point 5.7: hands on runs that halt: give, answer, fault, redo."""

import unittest

from helper import HALTED, ME, NO_VALUES, HallTest, ask, elder, field, name, val
from livehall.errors import BadValue, Ended, NoAsk, NoFrame, NoRun

NO_RUNS = [99, -1, True, False, None, "0", (0,), [0]]


class HandsTest(HallTest):
    def setUp(self):
        super().setUp()
        self.hall.make_kind("box", fields=("size",))
        self.hall.make_kind("bag", elder="box")

    def deep_run(self):
        """A run three ways deep; each way gives ten times what it is answered, and one more."""
        hall = self.hall
        self.way("box", "one", ("give", ("add", ("mul", val(10), ask(ME, "two", name("a"))), val(1))), names=("a",))
        self.way("box", "two", ("give", ("add", ("mul", val(10), ask(ME, "three", name("a"))), val(1))), names=("a",))
        self.way("box", "three", ("let", "a", ("add", name("a"), val(1))), ("while", val(True), (
            ("give", ("add", ("mul", val(10), ask(ME, "four")), val(1))),)), names=("a",))
        thing = hall.make("box")
        run = hall.start(thing, "one", (5,))
        hall.go(run, beats=3)
        self.same((hall.waits(run), len(hall.frames(run))), (("while",), 3))
        return run, thing


class Refusals(HandsTest):
    def hands(self):
        return [self.hall.give, self.hall.answer, self.hall.fault]

    def test_no_run(self):
        self.hall.start(1, "act")
        for wrong in NO_RUNS:
            for hand in self.hands():
                self.refused(NoRun, None, hand, wrong, [])
            self.refused(NoRun, None, self.hall.redo, wrong, frame=9)

    def test_ended(self):
        done = self.hall.start(1, "act")
        self.hall.answer(done, 1)
        failed = self.hall.start(1, "act")
        self.hall.go(failed)
        for run in [done, failed]:
            for hand in self.hands():
                self.refused(Ended, None, hand, run, [])
                self.refused(Ended, None, hand, run, 1)
            self.refused(Ended, None, self.hall.redo, run)
            self.refused(Ended, None, self.hall.redo, run, frame=9)

    def test_bad_value(self):
        first = self.hall.start(1, "act")
        amid, thing = self.start(("do", ask(ME, "stop")))
        self.hall.go(amid)
        for run in [first, amid]:
            for hand in self.hands():
                for wrong in NO_VALUES:
                    self.refused(BadValue, None, hand, run, wrong)

    def test_no_ask_is_told_ahead_of_a_bad_value(self):
        run, thing = self.start(("while", val(True), ()))
        self.hall.go(run)
        self.refused(NoAsk, None, self.hall.answer, run, 1)
        self.refused(NoAsk, None, self.hall.answer, run, [])
        self.refused(BadValue, None, self.hall.give, run, [])
        self.refused(BadValue, None, self.hall.fault, run, [])

    def test_no_frame(self):
        run, thing = self.start(("do", ask(ME, "stop")))
        for frame in [0, 1, -1]:
            self.refused(NoFrame, None, self.hall.redo, run, frame=frame)
        self.refused(NoFrame, None, self.hall.redo, run)
        self.hall.go(run)
        for frame in [1, 2, 99, -1, -2]:
            self.refused(NoFrame, None, self.hall.redo, run, frame=frame)


class Give(HandsTest):
    def test_the_last_way_ends(self):
        run, thing = self.deep_run()
        self.same(self.hall.give(run, 2), ("done", 211))

    def test_ahead_of_an_ask(self):
        run, thing = self.deep_run()
        self.hall.go(run)
        self.same(self.hall.waits(run), ("ask", thing, "four", ()))
        self.same(self.hall.give(run, 3), ("done", 311))

    def test_it_goes_on_to_the_next_halt(self):
        hall = self.hall
        self.way("box", "inner", ("while", val(True), ()))
        run, thing = self.start(("let", "a", ask(ME, "inner")), ("give", ask(ME, "more", name("a"))))
        hall.go(run, beats=2)
        self.same(hall.give(run, thing), HALTED)
        self.same(hall.waits(run), ("ask", thing, "more", (thing,)))
        self.same(hall.frames(run), (("box", "act", thing, (("a", thing),)),))

    def test_no_way_has_begun(self):
        run = self.hall.start(1, "act", (2,))
        self.same(self.hall.give(run, "x"), ("done", "x"))
        self.same((self.hall.waits(run), self.hall.frames(run)), (None, ()))

    def test_the_only_way(self):
        run, thing = self.start(("try", (("while", val(True), ()),), "a", (("give", val("taken")),)))
        self.hall.go(run)
        self.same(self.hall.give(run, None), ("done", None))


class Answer(HandsTest):
    def test_no_way_is_looked_for(self):
        run, thing = self.start(("give", ("add", ask(ME, "nay", val(1)), val(1))))
        self.hall.go(run)
        self.same(self.hall.answer(run, 4), ("done", 5))

    def test_of_what_is_no_thing(self):
        run, thing = self.start(("give", ask(val(5), "nay")))
        self.hall.go(run)
        self.same(self.hall.answer(run, thing), ("done", thing))

    def test_of_elder(self):
        run, thing = self.start(("give", ("add", val(1), elder("nay", val(7)))))
        self.hall.go(run)
        self.same(self.hall.answer(run, 4), ("done", 5))

    def test_at_the_first_halt(self):
        run = self.hall.start(1, "act", (2,))
        self.same(self.hall.answer(run, "x"), ("done", "x"))

    def test_at_depth(self):
        run, thing = self.deep_run()
        self.hall.go(run)
        self.same(self.hall.answer(run, 4), ("done", 41111 // 10))

    def test_to_the_next_halt(self):
        run, thing = self.start(("let", "a", ask(ME, "x")), ("while", name("a"), ()), ("give", val(1)))
        self.hall.go(run)
        self.same(self.hall.answer(run, False), HALTED)
        self.same(self.hall.waits(run), ("while",))
        self.same(self.hall.go(run), ("done", 1))

    def test_a_wrong_answer_is_a_fault(self):
        run, thing = self.start(("do", ("add", val(1), ask(ME, "x"))))
        self.hall.go(run)
        self.same(self.hall.answer(run, True), ("failed", "no numbers"))

    def test_ask_in_ask(self):
        run, thing = self.start(("give", ask(ask(ME, "x", val(1)), "y", ask(ME, "z"), val(2))))
        self.hall.go(run)
        self.same(self.hall.answer(run, 8), HALTED)
        self.same(self.hall.waits(run), ("ask", thing, "z", ()))
        self.same(self.hall.answer(run, 9), HALTED)
        self.same(self.hall.waits(run), ("ask", 8, "y", (9, 2)))
        self.same(self.hall.answer(run, 10), ("done", 10))


class FaultByHand(HandsTest):
    def test_nothing_takes_it(self):
        run, thing = self.deep_run()
        self.same(self.hall.fault(run, "x"), ("failed", "x"))

    def test_at_the_first_halt(self):
        run = self.hall.start(1, "act")
        self.same(self.hall.fault(run, None), ("failed", None))

    def test_taken_there_where_it_halts(self):
        for rows in [("do", ask(ME, "x")), ("while", val(True), ())]:
            run, thing = self.start(("try", (rows,), "a", (("give", name("a")),)))
            self.hall.go(run)
            self.same(self.hall.fault(run, thing), ("done", thing))

    def test_taken_by_ways_that_asked(self):
        self.way("box", "inner", ("while", val(True), ()), ("try", (), "b", ()))
        run, thing = self.start(("try", (("do", ("add", val(1), ask(ME, "inner"))),), "a", (("do", ask(ME, "y")),)))
        self.hall.go(run, beats=2)
        self.same(self.hall.fault(run, 6), HALTED)
        self.same(self.hall.waits(run), ("ask", thing, "y", ()))
        self.same(self.hall.frames(run), (("box", "act", thing, (("a", 6),)),))

    def test_not_taken_behind_the_try(self):
        run, thing = self.start(("try", (), "a", (("give", val(1)),)), ("while", val(True), ()))
        self.hall.go(run)
        self.same(self.hall.fault(run, 6), ("failed", 6))

    def test_in_the_second_body(self):
        run, thing = self.start(("try", (("raise", val(1)),), "a", (("while", val(True), ()),)))
        self.hall.go(run)
        self.same(self.hall.fault(run, 6), ("failed", 6))


class Redo(HandsTest):
    def test_each_frame(self):
        hall = self.hall
        for frame, word, left in [(0, "three", 2), (1, "two", 1), (2, "one", 0)]:
            run, thing = self.deep_run()
            before = hall.frames(run)
            self.same(hall.redo(run, frame=frame), HALTED)
            self.same(hall.waits(run), ("ask", thing, word, (5,)))
            self.same(hall.frames(run), before[3 - left:])
            hall.go(run, beats=3 - left)
            self.same(hall.frames(run), before)
            self.same(hall.give(run, 2), ("done", 211))

    def test_frame_is_0_if_left_out(self):
        run, thing = self.deep_run()
        self.hall.redo(run)
        self.same(self.hall.waits(run), ("ask", thing, "three", (5,)))

    def test_again_and_again(self):
        run, thing = self.deep_run()
        for word in ["three", "two", "one"]:
            self.hall.redo(run)
            self.same(self.hall.waits(run), ("ask", thing, word, (5,)))
        self.refused(NoFrame, None, self.hall.redo, run)

    def test_fields_stay_as_they_are(self):
        run, thing = self.start(("put", "size", val(1)), ("let", "b", val(1)), ("do", ask(ME, "x")))
        self.hall.go(run)
        self.hall.redo(run)
        self.same((self.hall.get(thing, "size"), self.hall.frames(run)), (1, ()))

    def test_what_was_given_and_not_what_the_names_have_now(self):
        run, thing = self.start(("let", "a", val("other")), ("do", ask(ME, "x")), names=("a", "b"), values=(1, 2))
        self.hall.go(run)
        self.hall.redo(run)
        self.same(self.hall.waits(run), ("ask", thing, "act", (1, 2)))

    def test_the_way_is_looked_for_anew(self):
        hall = self.hall
        run, thing = self.start(("do", ask(ME, "x")))
        hall.go(run)
        self.way("box", "act", ("give", val("anew")))
        hall.redo(run)
        self.same(hall.go(run), ("done", "anew"))
        run = hall.start(thing, "act")
        hall.drop_way("box", "act")
        self.same(hall.go(run), ("failed", "no way act"))

    def test_the_ask_of_an_elder(self):
        hall = self.hall
        self.way("box", "up", ("while", val(True), ()), names=("a",))
        self.way("bag", "up", ("give", ("add", val(1), elder("up", val(7)))))
        self.way("thing", "up", ("give", val(10)), names=("a",))
        thing = hall.make("bag")
        run = hall.start(thing, "up")
        hall.go(run, beats=2)
        self.same([frame[0] for frame in hall.frames(run)], ["box", "bag"])
        hall.redo(run)
        self.same(hall.waits(run), ("ask", thing, "up", (7,)))
        hall.drop_way("box", "up")
        self.same(hall.go(run), ("done", 11))

    def test_what_is_worked_out_and_needed_stays(self):
        hall = self.hall
        self.way("box", "inner", ("while", val(True), ()), names=("a", "b"))
        run, thing = self.start(("give", ("sub", val(100), ("add", val(10), ask(ME, "inner", ME, val(1))))))
        hall.go(run, beats=2)
        hall.redo(run)
        self.same(hall.waits(run), ("ask", thing, "inner", (thing, 1)))
        self.same(hall.answer(run, 5), ("done", 85))

    def test_of_a_way_that_asks(self):
        run, thing = self.deep_run()
        self.hall.go(run)
        self.hall.redo(run, frame=1)
        self.same(self.hall.answer(run, 7), ("done", 71))

    def test_redo_in_a_try(self):
        hall = self.hall
        self.way("box", "inner", ("while", val(True), ()))
        run, thing = self.start(("try", (("do", ask(ME, "inner")),), "a", (("give", name("a")),)))
        hall.go(run, beats=2)
        hall.redo(run)
        hall.drop_way("box", "inner")
        self.same(hall.go(run), ("done", "no way inner"))


class HandsAreAsIfWaysHadToldSo(HandsTest):
    def test_all_deeds_of_hands_are_told(self):
        hall = self.hall
        run, thing = self.deep_run()
        hall.redo(run, frame=1)
        hall.answer(run, 1)
        self.same(hall.deeds()[-2:], (("redo", (run, 1)), ("answer", (run, 1))))
        other = hall.start(thing, "act")
        hall.give(other, True)
        third = hall.start(thing, "act")
        hall.fault(third, "x")
        self.same(hall.deeds()[-4:], (("start", (thing, "act", ())), ("give", (other, True)),
                                      ("start", (thing, "act", ())), ("fault", (third, "x"))))


if __name__ == "__main__":
    unittest.main()
