"""Point 8.1: things and halls are written and read."""

import random
import unittest

from helper import HALTED, ME, all_told, ask, deep_tuple, strict, val
from livehall.errors import NoText
from livehall.halls import Hall
from livehall.likeness import alike
from livehall.writing import hall_text, read_hall, read_thing, thing_text

SIGNS = "".join(chr(code) for code in range(32, 127))

WRITTEN = [
    (0, "0"), (7, "7"), (-7, "-7"), (10, "10"), (-100, "-100"), (10 ** 59, "1" + "0" * 59),
    (10 ** 60, "1" + "0" * 60), (-(10 ** 60), "-1" + "0" * 60), (10 ** 60 - 1, "9" * 60), (10 ** 61 + 5, "1" + "0" * 60 + "5"),
    (10 ** 120, "1" + "0" * 120), (10 ** 120 - 1, "9" * 120), (10 ** 179 + 10 ** 61, "1" + "0" * 117 + "1" + "0" * 61),
    (True, "T"), (False, "F"), (None, "N"),
    ("", "''"), ("a text", "'a text'"), ("T", "'T'"), ("'", "'\\''"), ("\\", "'\\\\'"), ("\\'", "'\\\\\\''"),
    ("a'b\\c", "'a\\'b\\\\c'"), ("()", "'()'"), ("\\n", "'\\\\n'"), (" ", "' '"), ("~" * 40, "'" + "~" * 40 + "'"),
    ((), "()"), ((1,), "(1)"), ((1, 2), "(1 2)"), (((),), "(())"), (((), ()), "(() ())"), ((((),),), "((()))"),
    ((True, False, None), "(T F N)"), (("a", "b c"), "('a' 'b c')"), ((-1, "-1"), "(-1 '-1')"),
    (("thing", 3), "('thing' 3)"), ((1, (2, (3, ()), 4), (), 5), "(1 (2 (3 ()) 4) () 5)"),
    (("make", ("box",)), "('make' ('box'))"),
]

NOT_WRITTEN = [
    "", " ", "\n", "t", "f", "n", "X", "True", "None", "TT", "T ", " T", "T\n", "\nT", "NT", "T F", "1 2",
    "+1", "01", "00", "-0", "-01", "--1", "-", "- 1", "1-", "1.", "1.0", "1e3", "1_000", "0x1", "1 ", " 1", "1\n", "0 ",
    "\u0661", "\u00b2", "1\u0661", "\uff11",
    "'", "'a", "a'", "a", "'a'b'", "''a'", "'''", "'\\'", "'\\a'", "'\\n'", "'\\\\\\'", "'a\\'", "'\\\"'", "'\\ '",
    "'a' ", " 'a'", "'a''b'", "\"a\"", "'a\nb'", "'\n'", "'\t'", "'\u00e9'", "'\x7f'", "'\x00'", "'\\",
    "'" + "a" * 41 + "'", "'" + "\\'" * 41 + "'", "('" + "a" * 41 + "')",
    "(", ")", "())", "(()", ")(", "( )", "(1 )", "( 1)", "(1  2)", "(1,2)", "(1, 2)", "(1 2", "1 2)", "(1)2", "(1)(2)", "()()",
    "(1(2))", "((1)2)", "('a''b')", "('a'1)", "(1'a')", "(TF)", "(T F", "(1\n2)", "(1\t2)", "[1]", "[]", "(1 2))", "((1 2)",
    "() ", " ()", "(-)", "(-0)", "(01)", "(+1)", "(t)", "(1 2 )", "(() )", "(()  ())", "(()())", "{}", "?1", "(1 ?)",
]


def no_text(test, read, text):
    with test.assertRaises(NoText, msg=repr(text[:80])):
        read(text)


class Things(unittest.TestCase):
    def test_written(self):
        for thing, text in WRITTEN:
            self.assertEqual(thing_text(thing), text)

    def test_read(self):
        for thing, text in WRITTEN:
            self.assertEqual(strict(read_thing(text)), strict(thing))

    def test_in_tuples(self):
        for thing, text in WRITTEN:
            for wrapped, around in [((thing,), "(%s)"), ((1, thing), "(1 %s)"), ((thing, ((), thing)), "(%s (() %s))")]:
                wanted = around.replace("%s", text)
                self.assertEqual(thing_text(wrapped), wanted)
                self.assertEqual(strict(read_thing(wanted)), strict(wrapped))

    def test_each_sign(self):
        for sign in SIGNS:
            for text in [sign, sign * 40, "a" + sign + "b", sign + "\\", "'" + sign]:
                self.assertEqual(read_thing(thing_text(text)), text)
        self.assertEqual(thing_text("\""), "'\"'")

    def test_texts_of_forty_signs(self):
        for text in ["a" * 40, "'" * 40, "\\" * 40]:
            self.assertEqual(read_thing(thing_text(text)), text)

    def test_numbers_of_any_size(self):
        for number in [10 ** 4300, 10 ** 10000 - 1, 7 ** 9000, -(3 ** 12345)]:
            text = thing_text(number)
            self.assertEqual(read_thing(text), number)
            self.assertEqual(thing_text(read_thing(text)), text)
        self.assertEqual(thing_text(10 ** 5000), "1" + "0" * 5000)
        self.assertEqual(thing_text(-10 ** 5000 + 1), "-" + "9" * 5000)

    def test_however_deep(self):
        depth = 50000
        text = "(" * (depth + 1) + ")" * (depth + 1)
        self.assertEqual(thing_text(deep_tuple(depth)), text)
        self.assertEqual(thing_text(read_thing(text)), text)
        text = "(1 " * depth + "T" + " 'a')" * depth
        self.assertEqual(thing_text(read_thing(text)), text)
        no_text(self, read_thing, text[:-1])
        no_text(self, read_thing, text + ")")

    def test_very_wide(self):
        thing = tuple(range(50000))
        self.assertEqual(read_thing(thing_text(thing)), thing)

    def test_no_writing(self):
        for text in NOT_WRITTEN:
            no_text(self, read_thing, text)
            no_text(self, read_thing, "(" + text + " ")
            no_text(self, read_thing, text + " 1")

    def test_each_text_is_the_writing_of_what_is_read(self):
        chance = random.Random(8)
        many = 0
        for _ in range(6000):
            text = list(chance.choice(WRITTEN)[1])
            for _ in range(chance.randint(1, 2)):
                at = chance.randint(0, len(text))
                text[at:at + chance.randint(0, 1)] = chance.choice(["", chance.choice("()' \\TFN019-a"), "(", ")"])
            text = "".join(text)
            try:
                thing = read_thing(text)
            except NoText:
                many += 1
                continue
            self.assertEqual(thing_text(thing), text)
        self.assertGreater(many, 1000)


def grown():
    """A hall with most sorts of deeds."""
    hall = Hall()
    hall.make_kind("box", fields=("size", "next"), weak=("next",))
    hall.make_kind("bag", elder="box")
    hall.set_way("box", "act", (("put", "size", ("add", ("name", "a"), ask(ME, "stop", val("it's \\ odd")))),
                                ("while", val(True), ())), names=("a",))
    one, two = hall.make("box"), hall.make("bag")
    hall.put(one, "next", two)
    hall.hold("a", one)
    hall.hold("b", True)
    hall.hold("c", -10 ** 5000)
    run = hall.start(two, "act", (1,))
    hall.go(run)
    hall.reshape("box", add=("tag",), rename=(("size", "many"),))
    hall.answer(run, 5)
    hall.swap(one, two)
    hall.go(run, beats=2)
    hall.rename_kind("bag", "sack")
    hall.fault(run, None)
    hall.sweep()
    return hall


class Halls(unittest.TestCase):
    def test_written(self):
        hall = Hall()
        self.assertEqual(hall_text(hall), "")
        hall.make_kind("box", fields=("a", "b"), weak=("b",))
        hall.make("box")
        hall.hold("x", ("thing", 0))
        hall.hold("y", None)
        hall.start(("thing", 0), "act", (True, -5, "it's"))
        hall.go(0)
        hall.sweep()
        lines = [
            "('make_kind' ('box' 'thing' ('a' 'b') ('b')))\n", "('make' ('box'))\n", "('hold' ('x' ('thing' 0)))\n",
            "('hold' ('y' N))\n", "('start' (('thing' 0) 'act' (T -5 'it\\'s')))\n", "('go' (0 1))\n", "('sweep' ())\n",
        ]
        self.assertEqual(hall_text(hall), "".join(lines))
        hall.back()
        hall.back()
        hall.back()
        self.assertEqual(hall_text(hall), "".join(lines[:4] + ["?" + line for line in lines[4:]]))
        hall.again()
        self.assertEqual(hall_text(hall), "".join(lines[:5] + ["?" + line for line in lines[5:]]))

    def check_read(self, hall):
        text = hall_text(hall)
        read = read_hall(text)
        self.assertIs(read == hall, True)
        self.assertIs(alike(read, hall), True)
        self.assertEqual(hall_text(read), text)
        self.assertEqual(all_told(read), all_told(hall))
        return read

    def test_read(self):
        self.check_read(Hall())
        self.check_read(grown())

    def test_read_with_any_number_taken_back(self):
        hall = grown()
        for _ in range(hall.counts()[0]):
            hall.back()
            read = self.check_read(hall)
            while read.counts()[1] > 0:
                read.again()
            self.assertEqual(all_told(read), all_told(grown()))

    def test_it_goes_on_as_the_hall_that_was_written(self):
        hall = grown()
        for _ in range(4):
            hall.back()
        read = read_hall(hall_text(hall))
        for each in (hall, read):
            self.assertEqual(each.again(), "go")
            self.assertEqual(each.back(), "go")
            self.assertEqual(each.back(), "swap")
            self.assertEqual(each.counts(), (13, 5))
            self.assertEqual(each.make("box"), ("thing", 2))
            self.assertEqual(each.start(1, "act"), 1)
            self.assertEqual(each.go(0), HALTED)
        self.assertEqual(all_told(read), all_told(hall))
        self.assertIs(read == hall, True)

    def test_what_is_read_shares_nothing(self):
        hall = grown()
        text = hall_text(hall)
        read = read_hall(text)
        read.hold("z", 1)
        self.assertEqual(hall_text(hall), text)
        hall.back()
        self.assertEqual(read.counts()[1], 0)

    def test_bodies_deeper_than_calls(self):
        hall = Hall()
        e = val(1)
        for _ in range(20000):
            e = ("add", val(1), e)
        hall.set_way("thing", "act", (("give", e),))
        read = read_hall(hall_text(hall))
        self.assertIs(read == hall, True)
        self.assertEqual(read.go(read.start(read.make("thing"), "act")), ("done", 20001))


class NoHalls(unittest.TestCase):
    def test_line_feeds(self):
        text = hall_text(grown())
        for wrong in ["\n", "\n\n", text[:-1], text + "\n", "\n" + text, text.replace("\n", "\n\n", 1),
                      text.replace("\n", "\r\n"), text.replace("\n", "", 1), text.replace("\n", " ", 1), text + " "]:
            no_text(self, read_hall, wrong)

    def test_lines_that_are_no_deeds(self):
        for line in [
            "", " ", "1", "N", "'make'", "()", "('make')", "('make' 'thing')", "('make' ('thing') ())", "('make' ())",
            "('make' ('thing' 'thing'))", "(1 ())", "(N ())", "(() ())", "(('make') ('thing'))", "('Make' ('thing'))", "('kinds' ())",
            "('back' ())", "('again' ())", "('counts' ())", "('together' (()))", "('together' ((('make' ('thing')))))",
            "('state' (0))", "('len' ())", "('do' ())", "('sweep' (1))", "('sweep')", "('sweep' N)", "('get' (('thing' 0) 'a'))",
            "('__init__' ())", "('undone' ())", "('sweep' ())x", "x('sweep' ())", "('sweep' ()) ", " ('sweep' ())", "('sweep'  ())",
        ]:
            no_text(self, read_hall, line + "\n")
            no_text(self, read_hall, "?" + line + "\n")
            no_text(self, read_hall, "('sweep' ())\n" + line + "\n('sweep' ())\n")

    def test_lines_deeper_than_calls(self):
        deep = "(" * 50000 + ")" * 50000
        for line in [deep, "(" + deep + " ())", "('make' " + deep + ")", "('make' (" + deep + "))",
                     "('hold' ('a' " + deep + "))", "('go' (" + deep + " 1))", "('make_kind' ('a' 'thing' " + deep + " ()))"]:
            no_text(self, read_hall, line + "\n")

    def test_deeds_with_things_of_other_kinds(self):
        begin = "('make_kind' ('box' 'thing' ('a' 'b') ()))\n('make' ('box'))\n('start' (1 'act' ()))\n"
        self.assertEqual(read_hall(begin).counts(), (3, 0))
        for line in [
            "('make_kind' ('bag' 'thing' 'ab' ()))", "('make_kind' ('bag' 'thing' N ()))", "('make_kind' ('bag' 'thing' () N))",
            "('make_kind' ('bag' 'thing' ('c') 'c'))", "('make_kind' ('bag' 'thing'))", "('make_kind' ('bag' 'thing' ()))",
            "('make_kind' ('bag' 'thing' 0 0))", "('reshape' ('box' 'cd' () ()))", "('reshape' ('box' () 'ab' ()))",
            "('reshape' ('box' () () ('ac')))", "('reshape' ('box' () () (('a'))))", "('reshape' ('box' () () (('a' 'c' 'd'))))",
            "('reshape' ('box' () () (N)))", "('reshape' ('box' () () N))", "('reshape' ('box' () () 'ac'))", "('reshape' ('box'))",
            "('set_way' ('box' 'w' () 'ab'))", "('set_way' ('box' 'w' () N))", "('set_way' ('box' 'w' ()))",
            "('set_way' ('box' 'w' () 5))", "('start' (1 'act' 'ab'))", "('start' (1 'act' N))", "('start' (1 'act'))",
            "('go' (0 T))", "('go' (0 F))", "('go' (0 N))", "('go' (0 '1'))", "('go' (0 ()))", "('go' (0))", "('go' (F 1))",
            "('redo' (0 F))", "('redo' (0 N))", "('redo' (0))", "('end' (F))", "('give' (F 1))",
            "('put' (('thing' F) 'a' 1))", "('put' (('thing' 0) 'a' ('thing' F)))", "('hold' ('x' ('thing' F)))",
        ]:
            no_text(self, read_hall, begin + line + "\n")
            no_text(self, read_hall, begin + "?" + line + "\n")

    def test_deeds_that_are_refused(self):
        for line in ["('make' ('no'))", "('end' (0))", "('let_go' ('a'))", "('drop_kind' ('thing'))", "('hold' ('A' 1))",
                     "('hold' ('a' ('thing' 0)))", "('make_kind' ('thing' 'thing' () ()))", "('go' (0 1))"]:
            no_text(self, read_hall, line + "\n")
            no_text(self, read_hall, "?" + line + "\n")

    def test_lines_lost(self):
        for lost, kept in [("('make_kind'", 0), ("('make' ('box'))", 0), ("('start'", 0), ("('set_way'", 0)]:
            lines = hall_text(grown()).splitlines(True)
            left = [line for line in lines if not line.startswith(lost)]
            self.assertLess(len(left), len(lines))
            no_text(self, read_hall, "".join(left))

    def test_lines_lost_doubled_and_exchanged(self):
        lines = hall_text(grown()).splitlines(True)
        texts = [lines[:at] + lines[at + 1:] for at in range(len(lines))]
        texts += [lines[:at] + lines[at:at + 1] + lines[at:] for at in range(len(lines))]
        texts += [lines[:at] + lines[at + 1:at + 2] + lines[at:at + 1] + lines[at + 2:] for at in range(len(lines) - 1)]
        many = 0
        for text in texts:
            try:
                hall = read_hall("".join(text))
            except NoText:
                many += 1
                continue
            self.assertEqual(hall_text(hall), "".join(text))
        self.assertGreater(many, 10)
        no_text(self, read_hall, "".join([lines[1], lines[0]] + lines[2:]))
        no_text(self, read_hall, "".join([lines[0], lines[0]] + lines[1:]))
        no_text(self, read_hall, "".join(lines[1:]))

    def test_marks_of_what_can_be_done_again(self):
        done, undone = "('hold' ('a' 1))\n", "?('let_go' ('a'))\n"
        self.assertEqual(read_hall(done + undone).counts(), (1, 1))
        for wrong in [undone + done, undone, done + "?" + undone, done + "? " + undone[1:], done + " " + undone,
                      done + undone + done, done + undone + undone, done + "?\n", "?\n", "?", done + undone[:-1],
                      done + undone[1:-1] + "?\n"]:
            no_text(self, read_hall, wrong)

    def test_the_next_one_first(self):
        self.assertEqual(read_hall("?('hold' ('a' 1))\n?('let_go' ('a'))\n").again(), "hold")
        no_text(self, read_hall, "?('let_go' ('a'))\n?('hold' ('a' 1))\n")

    def test_each_text_is_the_writing_of_the_hall_that_is_read(self):
        chance = random.Random(9)
        text = hall_text(grown())
        many = 0
        for _ in range(1500):
            changed = list(text)
            at = chance.randrange(len(changed))
            changed[at:at + chance.randint(0, 1)] = chance.choice(["", "(", ")", " ", "1", "0", "a", "?", "\n", "T", "'"])
            changed = "".join(changed)
            try:
                hall = read_hall(changed)
            except NoText:
                many += 1
                continue
            self.assertEqual(hall_text(hall), changed)
        self.assertGreater(many, 300)


if __name__ == "__main__":
    unittest.main()
