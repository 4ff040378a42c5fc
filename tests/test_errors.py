"""The interface, errors.py: every class, its place and its field."""

import unittest

from livehall import errors

NAME_FIELD = ["BadName", "Known", "NoKind", "NoName"]
FIELD_FIELD = ["NoField", "BadField"]
NO_FIELD = [
    "Fixed", "Ring", "InUse", "BadBody", "NoWay", "NoThing", "BadValue",
    "Same", "NoRun", "Ended", "NoAsk", "NoFrame", "NoBack", "NoText",
]
LISTED = NAME_FIELD + FIELD_FIELD + NO_FIELD

# What is refused may be any thing, so the field holds any thing.
REFUSED = ["box", "", "No Name", 7, 0, True, None, ("a", ("b",)), 10 ** 5000]


def deep_tuple(depth):
    thing = ()
    for _ in range(depth):
        thing = (thing,)
    return thing


class TheClasses(unittest.TestCase):
    def test_hall_error_is_below_value_error(self):
        self.assertTrue(issubclass(errors.HallError, ValueError))
        self.assertIsNot(errors.HallError, ValueError)

    def test_each_is_below_hall_error(self):
        for word in LISTED:
            with self.subTest(word):
                listed = getattr(errors, word)
                self.assertTrue(issubclass(listed, errors.HallError))
                self.assertIsNot(listed, errors.HallError)

    def test_none_is_below_another(self):
        for word in LISTED:
            for other in LISTED:
                if word != other:
                    with self.subTest((word, other)):
                        self.assertFalse(issubclass(getattr(errors, word), getattr(errors, other)))

    def test_each_has_its_own_name(self):
        for word in LISTED + ["HallError"]:
            self.assertEqual(getattr(errors, word).__name__, word)


class TheFields(unittest.TestCase):
    def check_field(self, word, field):
        for refused in REFUSED:
            with self.subTest(word):
                by_place = getattr(errors, word)(refused)
                self.assertIs(getattr(by_place, field), refused)
                by_keyword = getattr(errors, word)(**{field: refused})
                self.assertIs(getattr(by_keyword, field), refused)

    def test_name(self):
        for word in NAME_FIELD:
            self.check_field(word, "name")

    def test_field(self):
        for word in FIELD_FIELD:
            self.check_field(word, "field")

    def test_each_object_has_its_own(self):
        for word, field in [(w, "name") for w in NAME_FIELD] + [(w, "field") for w in FIELD_FIELD]:
            one = getattr(errors, word)("one")
            other = getattr(errors, word)("other")
            self.assertEqual((getattr(one, field), getattr(other, field)), ("one", "other"))

    def test_the_message_can_be_told_whatever_was_refused(self):
        for refused in REFUSED + [deep_tuple(50000)]:
            for word in NAME_FIELD + FIELD_FIELD:
                self.assertIsInstance(str(getattr(errors, word)(refused)), str)

    def test_without_field(self):
        for word in NO_FIELD:
            with self.subTest(word):
                with self.assertRaises(errors.HallError) as caught:
                    raise getattr(errors, word)()
                self.assertIs(type(caught.exception), getattr(errors, word))


if __name__ == "__main__":
    unittest.main()
