"""Point 1.1: is_body, kinds_in, asked_in; with 0.3 and 0.4 for what may stand in a body."""

import copy
import unittest

from livehall.bodies import asked_in, is_body, kinds_in

ME = ("self",)
ONE = ("value", 1)

ES = [
    ("value", 5),
    ("self",),
    ("name", "count"),
    ("field", "size"),
    ("ask", ME, "grow", ()),
    ("ask", ("name", "other"), "grow", (ONE,)),
    ("ask", ("field", "next"), "grow", (ONE, ME, ("value", None))),
    ("elder", "grow", ()),
    ("elder", "grow", (ONE, ("name", "count"))),
    ("new", "box"),
    ("same", ME, ONE),
    ("add", ONE, ONE),
    ("sub", ONE, ONE),
    ("mul", ONE, ONE),
    ("under", ONE, ONE),
]

ROWS = [
    ("do", ME),
    ("let", "count", ONE),
    ("put", "size", ONE),
    ("give", ME),
    ("when", ("value", True), (), ()),
    ("when", ME, (("do", ME),), (("give", ONE), ("do", ME))),
    ("while", ME, ()),
    ("while", ME, (("do", ME), ("do", ONE))),
    ("raise", ("value", "no")),
    ("try", (), "fault", ()),
    ("try", (("do", ME),), "fault", (("give", ("name", "fault")),)),
]

# Each list holds every place of point 1.1 at which an e, an es, a body, a kind, a word or another name stands.
E_PLACES = [
    lambda e: ("do", e),
    lambda e: ("let", "a", e),
    lambda e: ("put", "a", e),
    lambda e: ("give", e),
    lambda e: ("when", e, (), ()),
    lambda e: ("while", e, ()),
    lambda e: ("raise", e),
    lambda e: ("do", ("ask", e, "a", ())),
    lambda e: ("do", ("ask", ME, "a", (e,))),
    lambda e: ("do", ("ask", ME, "a", (ME, e, ME))),
    lambda e: ("do", ("elder", "a", (e,))),
    lambda e: ("do", ("same", e, ME)),
    lambda e: ("do", ("same", ME, e)),
    lambda e: ("do", ("add", e, ME)),
    lambda e: ("do", ("add", ME, e)),
    lambda e: ("do", ("sub", e, ME)),
    lambda e: ("do", ("sub", ME, e)),
    lambda e: ("do", ("mul", e, ME)),
    lambda e: ("do", ("mul", ME, e)),
    lambda e: ("do", ("under", e, ME)),
    lambda e: ("do", ("under", ME, e)),
]

ES_PLACES = [
    lambda es: ("do", ("ask", ME, "a", es)),
    lambda es: ("do", ("elder", "a", es)),
]

BODY_PLACES = [
    lambda body: ("when", ME, body, ()),
    lambda body: ("when", ME, (), body),
    lambda body: ("while", ME, body),
    lambda body: ("try", body, "a", ()),
    lambda body: ("try", (), "a", body),
]

KIND_PLACES = [lambda name: ("do", ("new", name))]

WORD_PLACES = [
    lambda name: ("do", ("ask", ME, name, ())),
    lambda name: ("do", ("elder", name, ())),
]

OTHER_NAME_PLACES = [
    lambda name: ("let", name, ME),
    lambda name: ("put", name, ME),
    lambda name: ("try", (), name, ()),
    lambda name: ("do", ("name", name)),
    lambda name: ("do", ("field", name)),
]

NAME_PLACES = KIND_PLACES + WORD_PLACES + OTHER_NAME_PLACES

NOT_TUPLES = [0, 1, -3, 2 ** 70, True, False, None, "", "do", "self", "a text", [], [()], [[]]]


def deep(first, wrap, depth=20000):
    """A part wrapped again and again, far deeper than Python can call."""
    part = first
    for _ in range(depth):
        part = wrap(part)
    return part


def with_one_list(thing):
    """Every thing that comes of turning just one tuple in the thing into a list."""
    if not isinstance(thing, tuple):
        return
    yield list(thing)
    for at, part in enumerate(thing):
        for changed in with_one_list(part):
            yield thing[:at] + (changed,) + thing[at + 1:]


class BodyTest(unittest.TestCase):
    def is_one(self, thing):
        with self.subTest(repr(thing)[:200]):
            self.assertIs(is_body(thing), True)

    def is_none(self, thing):
        with self.subTest(repr(thing)[:200]):
            self.assertIs(is_body(thing), False)


class Bodies(BodyTest):
    def test_no_rows(self):
        self.is_one(())

    def test_each_row(self):
        for row in ROWS:
            self.is_one((row,))
        self.is_one(tuple(ROWS))

    def test_each_e_at_each_place(self):
        for place in E_PLACES:
            for e in ES:
                self.is_one((place(e),))

    def test_e_in_e(self):
        inner = ("ask", ("add", ("field", "a"), ("mul", ONE, ONE)), "b", (("elder", "c", (("new", "d"),)),))
        for place in E_PLACES:
            self.is_one((place(("same", inner, ("under", inner, inner))),))

    def test_bodies_in_bodies(self):
        for place in BODY_PLACES:
            for inner in BODY_PLACES:
                self.is_one((place((inner(tuple(ROWS)), inner(()))),))

    def test_deeper_than_calls(self):
        self.assertIs(is_body((("do", deep(ME, lambda e: ("add", ONE, e))),)), True)
        self.assertIs(is_body((("do", deep(ME, lambda e: ("ask", ME, "a", (e,)))),)), True)
        self.assertIs(is_body(deep((), lambda body: (("while", ME, body),))), True)
        self.assertIs(is_body(deep((), lambda body: (("try", (), "a", body),))), True)

    def test_very_many_rows(self):
        self.assertIs(is_body((("do", ME),) * 50000), True)
        self.assertIs(is_body((("do", ME),) * 50000 + (ME,)), False)


class NoBodies(BodyTest):
    def test_no_tuples(self):
        for thing in NOT_TUPLES:
            self.is_none(thing)

    def test_tuples_and_lists_of_others(self):
        for thing in NOT_TUPLES:
            self.is_none((thing,))
            self.is_none([thing])
            self.is_none((("do", ME), thing))
        self.is_none((1, 2, 3))
        self.is_none(("do", 1))
        self.is_none(((),))
        self.is_none((((),),))

    def test_others_as_e(self):
        for place in E_PLACES:
            for thing in NOT_TUPLES + [()]:
                self.is_none((place(thing),))

    def test_others_as_es(self):
        for place in ES_PLACES:
            for thing in NOT_TUPLES:
                self.is_none((place(thing),))
            for thing in NOT_TUPLES + [()]:
                self.is_none((place((thing,)),))
                self.is_none((place((ME, thing)),))

    def test_an_e_in_the_place_of_es(self):
        for place in ES_PLACES:
            for e in ES:
                self.is_none((place(e),))

    def test_others_as_inner_body(self):
        for place in BODY_PLACES:
            for thing in NOT_TUPLES:
                self.is_none((place(thing),))
                self.is_none((place((thing,)),))

    def test_a_row_by_itself(self):
        for row in ROWS:
            self.is_none(row)
            for place in BODY_PLACES:
                self.is_none((place(row),))

    def test_an_e_in_the_place_of_a_row(self):
        for e in ES:
            self.is_none(e)
            self.is_none((e,))
            self.is_none((("do", ME), e))
            for place in BODY_PLACES:
                self.is_none((place((e,)),))

    def test_a_row_in_the_place_of_an_e(self):
        for place in E_PLACES:
            for row in ROWS:
                self.is_none((place(row),))

    def test_a_body_in_the_place_of_a_row_or_an_e(self):
        self.is_none(((("do", ME),),))
        for place in E_PLACES:
            self.is_none((place((("do", ME),)),))
            self.is_none((place((ME,)),))

    def test_a_list_anywhere(self):
        for row in ROWS + [("do", e) for e in ES]:
            for thing in with_one_list((row,)):
                self.is_none(thing)

    def test_a_part_too_few(self):
        for row in ROWS:
            for at in range(len(row)):
                self.is_none((row[:at] + row[at + 1:],))
        for e in ES:
            for at in range(len(e)):
                self.is_none((("do", e[:at] + e[at + 1:]),))

    def test_a_part_too_many(self):
        for extra in [ME, (), ("do", ME), "a", 1, None]:
            for row in ROWS:
                self.is_none((row + (extra,),))
            for e in ES:
                self.is_none((("do", e + (extra,)),))

    def test_unknown_words(self):
        words = ["", "Do", "done", "DO", " do", "if", "e", "es", "body", "row", "kind", "word", "thing", "div"]
        words += [0, True, None, (), ("do",), ["do"]]
        for word in words:
            for row in ROWS:
                self.is_none(((word,) + row[1:],))
            for e in ES:
                self.is_none((("do", (word,) + e[1:]),))

    def test_deep_things(self):
        for thing in [deep((), lambda part: (part,)), deep([], lambda part: [part])]:
            for wrong in [thing, (thing,), ((thing,),), ((thing, ME),), (("do", thing),), (("do", (thing,)),)]:
                self.assertIs(is_body(wrong), False)
            for place in NAME_PLACES:
                self.assertIs(is_body((place(thing),)), False)
            self.assertIs(is_body((("do", ("value", thing)),)), False)

    def test_wrong_far_below(self):
        self.assertIs(is_body((("do", deep(("value", ()), lambda e: ("add", ONE, e))),)), False)
        self.assertIs(is_body(deep([], lambda body: (("while", ME, body),))), False)

    def test_a_list_that_contains_itself(self):
        ring = []
        ring.append(ring)
        for thing in [ring, (ring,), (("do", ring),), (("do", ("value", ring)),), ((ring, ME),)]:
            self.assertIs(is_body(thing), False)


class Names(BodyTest):
    def test_names(self):
        for place in NAME_PLACES:
            for name in ["a", "z", "m", "abcdefghijkl", "zzzzzzzzzzzz", "do", "thing"]:
                self.is_one((place(name),))

    def test_no_names(self):
        texts = ["", "abcdefghijklm", "a" * 1000, "Abc", "abC", "A", "a1", "1", "a b", " a", "a ", " "]
        texts += ["`", "{", "a_b", "a-b", "a\n", "\n", "\u00e9", "\u00df", "a\u00e9", "\u0430", "\uff41", "\u00aa"]
        for place in NAME_PLACES:
            for name in texts + [0, 1, True, False, None, (), ("a",), ["a"], []]:
                self.is_none((place(name),))


class Values(BodyTest):
    def test_values(self):
        signs = "".join(chr(code) for code in range(32, 127))
        values = [0, 1, -1, 2 ** 70, -2 ** 70, True, False, None, "", " ", "~", " ~", "a'b\\c\"", "a" * 40]
        for value in values + list(signs) + [signs[:40], signs[40:80], signs[-40:], " " * 40, "~" * 40]:
            self.is_one((("do", ("value", value)),))

    def test_whole_numbers_of_any_size(self):
        for value in [10 ** 5000, -10 ** 5000]:
            self.assertIs(is_body((("do", ("value", value)),)), True)

    def test_no_values(self):
        texts = ["a" * 41, " " * 41, "~" * 1000, "\n", "\t", "a\n", "\x00", "\x1f", "\x7f", "\x80", "\u00e9", "\ud800"]
        for text in texts:
            with self.subTest(ascii(text)):
                self.assertIs(is_body((("do", ("value", text)),)), False)
        for thing in [(), (1,), ("a",), [], [1], ["a"], ME, ONE, ("value", ONE)]:
            self.is_none((("do", ("value", thing)),))

    def test_a_thing_may_not_stand_there(self):
        for thing in [("thing", 0), ("thing", 7)]:
            self.is_none((("do", ("value", thing)),))
            self.is_none((("do", thing),))


class KindsAndWords(unittest.TestCase):
    def test_none(self):
        for tell in [kinds_in, asked_in]:
            self.assertEqual(tell(()), ())
            self.assertEqual(tell((("do", ME), ("while", ME, ()), ("try", (), "a", ()))), ())

    def test_kinds_at_every_place(self):
        for place in E_PLACES:
            row = place(("new", "box"))
            self.assertEqual(kinds_in((row,)), ("box",))
            for outer in BODY_PLACES:
                self.assertEqual(kinds_in((outer((row,)),)), ("box",))

    def test_words_at_every_place(self):
        for place in E_PLACES:
            own = ("a",) if place(ME)[1][0] in ("ask", "elder") else ()
            for e in [("ask", ME, "grow", ()), ("elder", "grow", ())]:
                self.check_words((place(e),), own + ("grow",))
                for outer in BODY_PLACES:
                    self.check_words((outer((place(e),)),), own + ("grow",))

    def check_words(self, body, words):
        with self.subTest(body):
            self.assertEqual(asked_in(body), words)

    def test_rising_each_once(self):
        body = tuple(("do", ("new", name)) for name in ["box", "b", "az", "a", "box", "b", "zz", "abcdefghijkl"])
        self.assertEqual(kinds_in(body), ("a", "abcdefghijkl", "az", "b", "box", "zz"))
        asks = tuple(("do", ("ask", ME, name, ())) for name in ["grow", "b", "ba", "grow", "a"])
        elders = tuple(("do", ("elder", name, ())) for name in ["b", "elder", "a", "z"])
        self.assertEqual(asked_in(asks + elders), ("a", "b", "ba", "elder", "grow", "z"))

    def test_deep_in_all(self):
        def made(name):
            return ("do", ("ask", ME, "w" + name, (ONE, ("elder", "e" + name, (("add", ONE, ("new", name)),)))))

        body = (
            ("when", ("new", "f"), (made("e"), ("while", ("new", "d"), (made("c"),))), (made("b"),)),
            ("try", (made("h"), ("try", (made("k"),), "x", (made("j"),))), "y", (made("i"),)),
            ("give", ("same", ("ask", ("new", "a"), "q", ()), ("new", "b"))),
        )
        self.assertIs(is_body(body), True)
        self.assertEqual(kinds_in(body), ("a", "b", "c", "d", "e", "f", "h", "i", "j", "k"))
        words = ["e" + name for name in "bcehijk"] + ["q"] + ["w" + name for name in "bcehijk"]
        self.assertEqual(asked_in(body), tuple(words))

    def test_other_names_are_none_of_both(self):
        body = (
            ("let", "a", ("name", "b")), ("put", "c", ("field", "d")),
            ("try", (("raise", ("value", "new")),), "e", (("do", ("value", "ask")),)),
        )
        self.assertEqual((kinds_in(body), asked_in(body)), ((), ()))
        body += (("do", ("ask", ("new", "box"), "open", ())),)
        self.assertEqual((kinds_in(body), asked_in(body)), (("box",), ("open",)))

    def test_deeper_than_calls(self):
        body = (("do", deep(("new", "box"), lambda e: ("ask", e, "grow", (("elder", "add", ()),)))),)
        self.assertEqual((kinds_in(body), asked_in(body)), (("box",), ("add", "grow")))
        body = deep((("give", ("ask", ("new", "box"), "grow", ())),), lambda inner: (("while", ME, inner),))
        self.assertEqual((kinds_in(body), asked_in(body)), (("box",), ("grow",)))


class Unchanged(unittest.TestCase):
    def test_what_is_handed_in_stays_and_the_same_is_told_again(self):
        things = [tuple(ROWS), list(ROWS), [["do", ["self"]]], (["do", ME],), (("do", [1, [2]]),), [1, [2, "a"]]]
        for thing in things:
            before = copy.deepcopy(thing)
            told = [is_body(thing) for _ in range(3)]
            self.assertEqual(told, [told[0]] * 3)
            self.assertEqual(thing, before)

    def test_kinds_and_words_again(self):
        body = tuple(("do", e) for e in ES)
        before = copy.deepcopy(body)
        self.assertEqual((kinds_in(body), asked_in(body)), (("box",), ("grow",)))
        self.assertEqual((kinds_in(body), asked_in(body)), (("box",), ("grow",)))
        self.assertEqual(body, before)


if __name__ == "__main__":
    unittest.main()
