"""Points 0.3 and 0.4: what is equal, and that a truth is no whole number."""

import unittest

from helper import deep_tuple
from livehall.values import is_whole, same

LEAVES = [0, 1, -1, 2 ** 70, True, False, None, "", "a", "ab", "True", "1"]


class Sameness(unittest.TestCase):
    def test_leaves(self):
        for one in LEAVES:
            for other in LEAVES:
                wanted = type(one) is type(other) and one == other
                self.assertIs(same(one, other), wanted)
                self.assertIs(same((one,), (other,)), wanted)
                self.assertIs(same((1, (one, "x")), (1, (other, "x"))), wanted)

    def test_tuples_and_texts(self):
        for one, other in [("a", ("a",)), ("ab", ("a", "b")), ("", ()), ((), ((),)), ((1, 2), (1,)), ((1,), (1, 2)),
                           ((1, 2), (2, 1)), (None, ()), (1, (1,)), (("a", "b"), ("ab",))]:
            self.assertIs(same(one, other), False)
            self.assertIs(same(other, one), False)
        self.assertIs(same((), ()), True)
        self.assertIs(same(((1, "a"), (None, (True,))), ((1, "a"), (None, (True,)))), True)

    def test_deeper_than_calls(self):
        self.assertIs(same(deep_tuple(), deep_tuple()), True)
        self.assertIs(same(deep_tuple(20000), deep_tuple(20001)), False)

    def test_whole_numbers(self):
        for thing in LEAVES + [(), (1,), [], 1.0]:
            self.assertIs(is_whole(thing), type(thing) is int)


if __name__ == "__main__":
    unittest.main()
