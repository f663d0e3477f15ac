"""[13], and the example behind it as far as it is of these."""

import unittest

from endsahead.forms import is_integer, is_kind, is_lot, is_name
from samples import odd_values

KEYWORDS = "plain once record choice given def let open if else match repeat give true false num truth and".split()


class Forms(unittest.TestCase):

    def test_the_example(self):
        found = [is_name("x1"), is_name("num"), is_name("1x"), is_kind("num"), is_kind("def"), is_lot(("a", "b"))]
        found.extend([is_lot(("b", "a")), is_integer(True)])
        self.assertEqual(found, [True, False, False, True, False, True, False, False])

    def test_only_truths_are_returned(self):
        for ask in (is_integer, is_name, is_kind, is_lot):
            for thing in [*odd_values(), "a", "num", ("a", "b"), 5]:
                self.assertIsInstance(ask(thing), bool)

    def test_is_integer(self):
        for thing in [0, 1, -1, 10 ** 39, -(10 ** 39), 999999999]:
            self.assertIs(is_integer(thing), True)
        for thing in [True, False, None, "1", "", (1,), [1], {1: 1}, (), b"1"]:
            self.assertIs(is_integer(thing), False)

    def test_is_name(self):
        for thing in ["a", "x1", "z" * 20, "nums", "truths", "ands", "a0"]:
            self.assertIs(is_name(thing), True)
        for thing in [*KEYWORDS, "z" * 21, "", "A", "aB", "a b", "a\n", "1", "0", "1x", "{", "_a", "a.b"]:
            self.assertIs(is_name(thing), False)
        for thing in [("a",), ["a"], {"a": "a"}, None, True, 1, ()]:
            self.assertIs(is_name(thing), False)

    def test_is_kind(self):
        for thing in ["num", "truth", "a", "x1", "z" * 20, "number"]:
            self.assertIs(is_kind(thing), True)
        for thing in [word for word in KEYWORDS if word not in ("num", "truth")]:
            self.assertIs(is_kind(thing), False)
        for thing in ["", "Num", "num ", "z" * 21, "1", "0", "{", ("num",), ["num"], {"num": 1}, None, True, 0]:
            self.assertIs(is_kind(thing), False)

    def test_is_lot(self):
        for thing in [(), ("a",), ("a", "b"), ("A", "a"), ("", "a"), ("", " ", "B", "a b", "b"), ("a", "a1", "aa"), ("10", "9")]:
            self.assertIs(is_lot(thing), True)
        for thing in [("a", "a"), ("b", "a"), ("a", "c", "b"), ("9", "10"), ("a", "B"), ["a", "b"], [], "ab", "", {}]:
            self.assertIs(is_lot(thing), False)
        for thing in [("a", 1), (1,), (1, 2), (None,), (True,), ("a", ("b",)), (("a",),), (["a"],), ({},), None, False, 3]:
            self.assertIs(is_lot(thing), False)


if __name__ == "__main__":
    unittest.main()
