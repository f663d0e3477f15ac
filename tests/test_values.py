"""[34]: values, the tokens in them, and texts that show them."""

import random
import unittest

from endsahead.values import are_fresh, is_of_kind, show_value, tokens_in
from authors import chance_kinds, chance_library
from runner import Labels, fits, tokens
from samples import odd_values

INK, TOK, SEAL = ("plain", "ink"), ("once", "tok"), ("once", "seal")
PAIR = ("record", "pair", (("left", "tok"), ("right", "num")))
PAGE = ("record", "page", (("at", "ink"), ("sure", "truth"), ("pair", "pair")))
SOME = ("choice", "some", (("none", None), ("one", "page"), ("far", "num")))
BIT = ("choice", "bit", (("yes", "some"), ("no", None)))
BURN = ("def", "burn", (("t", "tok"),), "num", (("give", ("num", 1)),))
ALL = (INK, TOK, SEAL, PAIR, PAGE, SOME, BIT, ("given", "mint", (), "tok"), BURN)

PAIR_VALUE = ("pair", (("tok", 0), 7))
PAGE_VALUE = ("page", (("ink", 3), True, PAIR_VALUE))
ONE_VALUE = ("one", PAGE_VALUE)
YES_VALUE = ("yes", ONE_VALUE)
VALUES = {
    "num": [0, -5, 10 ** 39], "truth": [True, False], "ink": [("ink", 0), ("ink", 10 ** 39)], "tok": [("tok", 0), ("tok", 12)], "seal": [("seal", 1)], "pair": [PAIR_VALUE], "page": [PAGE_VALUE],
    "some": [("none", None), ONE_VALUE, ("far", -2)], "bit": [YES_VALUE, ("no", None), ("yes", ("none", None))],
}


class OfKind(unittest.TestCase):

    def test_values_of_each_kind(self):
        for kind in VALUES:
            for other, values in VALUES.items():
                for value in values:
                    self.assertIs(is_of_kind(ALL, kind, value), kind == other, (kind, value))

    def test_any_value(self):
        for thing in odd_values():
            is_number = isinstance(thing, int) and not isinstance(thing, bool)
            self.assertIs(is_of_kind(ALL, "num", thing), is_number)
            self.assertIs(is_of_kind(ALL, "truth", thing), isinstance(thing, bool))
            for kind in ("ink", "tok", "pair", "page", "some", "bit"):
                self.assertIs(is_of_kind(ALL, kind, thing), False)
                self.assertIs(is_of_kind(ALL, kind, (thing, 0)), False)
                self.assertIs(is_of_kind(ALL, kind, (thing, None)), False)
                self.assertIs(is_of_kind(ALL, kind, (kind, thing)), kind in ("ink", "tok") and is_number and thing >= 0)
            self.assertIs(is_of_kind(ALL, "pair", ("pair", (("tok", 0), thing))), is_number)
            self.assertIs(is_of_kind(ALL, "page", ("page", (("ink", 0), thing, PAIR_VALUE))), isinstance(thing, bool))
            self.assertIs(is_of_kind(ALL, "some", ("none", thing)), thing is None)
            self.assertIs(is_of_kind(ALL, "some", ("far", thing)), is_number)
            self.assertIs(is_of_kind(ALL, "some", ("one", thing)), False)

    def test_truths_are_no_numbers(self):
        for kind, thing in [("num", True), ("num", False), ("truth", 1), ("truth", 0), ("tok", ("tok", True)), ("tok", ("tok", False)), ("pair", ("pair", (("tok", 0), True))), ("page", ("page", (("ink", 0), 1, PAIR_VALUE))), ("some", ("far", False))]:
            self.assertIs(is_of_kind(ALL, kind, thing), False, thing)

    def test_labels(self):
        for label in [-1, -(10 ** 39), True, None, "0", (), (0,), [0], {}]:
            self.assertIs(is_of_kind(ALL, "tok", ("tok", label)), False)
            self.assertIs(is_of_kind(ALL, "ink", ("ink", label)), False)
        for thing in [("tok",), ("tok", 0, 0), ("tok", 0, None), (0, "tok"), ("TOK", 0), ["tok", 0], {"tok": 0}, (("tok",), 0), "tok#0", ("ink", 0), ("left", 0)]:
            self.assertIs(is_of_kind(ALL, "tok", thing), False)

    def test_records(self):
        token = ("tok", 0)
        for thing in [("pair", [token, 7]), ["pair", (token, 7)], ("pair", (token,)), ("pair", (token, 7, 7)), ("pair", (7, token)), ("pair", ()), ("pair", token, 7), ("pair", (list(token), 7)), ("pair", None), ("page", (token, 7)), (token, 7), ("pair", {0: token, 1: 7})]:
            self.assertIs(is_of_kind(ALL, "pair", thing), False, thing)

    def test_arms(self):
        for thing in [("none",), ("none", 0), ("none", ()), ("one", None), ("one", PAIR_VALUE), ("one",), ("far", None), ("far", ("far", 1)), ("yes", ("none", None)), ("no", None), ("some", ("none", None)), ["none", None], ("none", None, None), ("some", None), ("far", 1, None)]:
            self.assertIs(is_of_kind(ALL, "some", thing), False, thing)
        for thing in [("none", None), ("yes", None), ("no", ("none", None)), ("yes", ("no", None)), ("yes", PAGE_VALUE)]:
            self.assertIs(is_of_kind(ALL, "bit", thing), False, thing)

    def test_with_the_first_declarations_only(self):
        self.assertIs(is_of_kind(ALL[:4], "pair", PAIR_VALUE), True)
        self.assertIs(is_of_kind((), "num", 3), True)
        self.assertIs(is_of_kind((), "truth", 3), False)

    def test_by_chance(self):
        told = [0, 0]
        for seed in range(60):
            chance = random.Random(seed)
            program = tuple(chance_kinds(chance, 7)[0])
            labels = Labels(chance, program)
            kinds = ["num", "truth", *[declared[1] for declared in program]]
            for kind in kinds:
                value = labels.value(kind)
                self.assertIs(is_of_kind(program, kind, value), True)
                for other in [kind, *chance.sample(kinds, 2)]:
                    spoilt = self.spoil(chance, value)
                    self.assertIs(is_of_kind(program, other, spoilt), fits(program, other, spoilt), (other, spoilt))
                    told[fits(program, other, spoilt)] += 1
        self.assertTrue(min(told) > 40, told)

    def spoil(self, chance, value):
        """Return a value with some part of it exchanged, left out or added."""
        if not isinstance(value, tuple) or chance.random() < 0.3:
            return chance.choice((0, -1, True, None, "tok", (), [value], ("num", 0), value, 5))
        at = chance.randrange(len(value) + 1)
        if at == len(value):
            return chance.choice((value[:-1], (*value, 0), list(value), value))
        return (*value[:at], self.spoil(chance, value[at]), *value[at + 1:])


class Tokens(unittest.TestCase):

    def test_in_order_each_as_often(self):
        found = {0: (), True: (), ("ink", 2): (), ("tok", 2): (("tok", 2),), PAIR_VALUE: (("tok", 0),), PAGE_VALUE: (("tok", 0),), ("none", None): (), ("far", 3): (), YES_VALUE: (("tok", 0),), ("no", None): ()}
        for value, wanted in found.items():
            self.assertEqual(tokens_in(ALL, value), wanted)
        three = (TOK, SEAL, ("record", "two", (("a", "tok"), ("b", "seal"), ("c", "tok"))), ("record", "four", (("a", "two"), ("b", "num"), ("c", "two"))))
        value = ("four", (("two", (("tok", 5), ("seal", 5), ("tok", 5))), 5, ("two", (("tok", 1), ("seal", 5), ("tok", 0)))))
        wanted = (("tok", 5), ("seal", 5), ("tok", 5), ("tok", 1), ("seal", 5), ("tok", 0))
        self.assertEqual(tokens_in(three, value), wanted)
        self.assertIsInstance(tokens_in(three, value), tuple)

    def test_by_chance(self):
        for seed in range(40):
            chance = random.Random(seed)
            program = chance_library(seed, 7, 0)
            labels = Labels(chance, program)
            for declared in program:
                value = labels.value(declared[1])
                self.assertEqual(list(tokens_in(program, value)), tokens(program, value))
                self.assertIs(are_fresh(program, [value]), True)

    def test_fresh(self):
        one, two = ("tok", 1), ("tok", 2)
        cases = [([], True), ((), True), ([one], True), ((one, two), True), ([one, one], False), ((one, two, one), False), ([5, 5, True, True], True), ([("ink", 1), ("ink", 1)], True), ([one, ("seal", 1), ("ink", 1)], True), ([("pair", (one, 1)), one], False)]
        cases += [((("pair", (one, 1)), ("one", ("page", (("ink", 1), False, ("pair", (two, 1))))), 3), True), ([YES_VALUE, ("tok", 0)], False), ([YES_VALUE, ("tok", 1)], True), ([("none", None), ("none", None)], True)]
        for values, wanted in cases:
            self.assertIs(are_fresh(ALL, values), wanted, values)
        twice = ("record", "twice", (("a", "tok"), ("b", "tok")))
        self.assertIs(are_fresh((TOK, twice), (("twice", (one, one)),)), False)
        self.assertIs(are_fresh((TOK, twice), [("twice", (one, two))]), True)


class Shown(unittest.TestCase):

    def test_each_sort(self):
        shown = [
            (0, "0"), (-12, "-12"), (10 ** 39, "1" + "0" * 39), (True, "true"), (False, "false"), (("tok", 0), "tok#0"), (("ink", 41), "ink#41"), (PAIR_VALUE, "pair{tok#0, 7}"), (PAGE_VALUE, "page{ink#3, true, pair{tok#0, 7}}"),
            (("none", None), "none"), (("far", -2), "far(-2)"), (ONE_VALUE, "one(page{ink#3, true, pair{tok#0, 7}})"), (YES_VALUE, "yes(one(page{ink#3, true, pair{tok#0, 7}}))"), (("no", None), "no"), (("yes", ("none", None)), "yes(none)"),
        ]
        for value, text in shown:
            self.assertEqual(show_value(ALL, value), text)
        self.assertEqual([show_value(ALL, True), show_value(ALL, False), show_value((), 1), show_value((), 0)], ["true", "false", "1", "0"])

    def test_records_of_one_and_of_truths(self):
        program = (("record", "alone", (("a", "truth"),)), ("record", "three", (("a", "alone"), ("b", "num"), ("c", "alone"))), ("choice", "c", (("far", "three"), ("near", "truth"), ("here", "alone"))))
        self.assertEqual(show_value(program, ("alone", (False,))), "alone{false}")
        self.assertEqual(show_value(program, ("far", ("three", (("alone", (True,)), 1, ("alone", (False,)))))), "far(three{alone{true}, 1, alone{false}})")
        self.assertEqual([show_value(program, ("near", True)), show_value(program, ("here", ("alone", (True,))))], ["near(true)", "here(alone{true})"])

    def test_by_chance(self):
        for seed in range(30):
            chance = random.Random(seed)
            program = chance_library(seed, 8, 0)
            labels = Labels(chance, program)
            for declared in program:
                value = labels.value(declared[1])
                self.assertEqual(show_value(program, value), self.slow_show(program, value))

    def slow_show(self, program, value):
        if isinstance(value, bool):
            return "true" if value else "false"
        if isinstance(value, int):
            return str(value)
        sorts = {declared[1]: declared[0] for declared in program}
        if sorts.get(value[0]) in ("plain", "once"):
            return f"{value[0]}#{value[1]}"
        if sorts.get(value[0]) == "record":
            return value[0] + "{" + ", ".join(self.slow_show(program, part) for part in value[1]) + "}"
        return value[0] if value[1] is None else f"{value[0]}({self.slow_show(program, value[1])})"


if __name__ == "__main__":
    unittest.main()
