"""[12]: words, rows, and the example behind [13] as far as it is of these."""

import unittest

from endsahead.errors import EndError, NoWord, Wrong
from endsahead.words import cut, fresh_name, is_row, number_of, number_word, show, sort_of_word
from samples import odd_values

KEYWORDS = "plain once record choice given def let open if else match repeat give true false num truth and".split()
SIGNS = "{ } ( ) , : ; = + < .".split()
LETTERS = list("abcdefghijklmnopqrstuvwxyz")


class SortOfWord(unittest.TestCase):

    def test_the_example(self):
        words = ["give", "gives", "07", "0", "<", 7]
        self.assertEqual([sort_of_word(word) for word in words], ["keyword", "name", None, "number", "sign", None])

    def test_keywords_and_signs(self):
        self.assertEqual([sort_of_word(word) for word in KEYWORDS], ["keyword"] * 18)
        self.assertEqual([sort_of_word(word) for word in SIGNS], ["sign"] * 11)

    def test_names(self):
        for name in ["a", "z9", "x0y", "nums", "an", "givens", "arm", "match1", "n" * 20, "a" + "0" * 19]:
            self.assertEqual(sort_of_word(name), "name", name)
        for text in ["n" * 21, "a" + "0" * 20, "A", "aB", "Give", "a_b", "_", "a b", " a", "a ", "a\n", "\na", "1a", "a-"]:
            self.assertIsNone(sort_of_word(text), text)

    def test_numbers(self):
        for number in ["0", "1", "10", "999999999", "100000000", "123456789"]:
            self.assertEqual(sort_of_word(number), "number", number)
        for text in ["1000000000", "1" * 10, "00", "07", "-1", "+1", "1 ", "1.0", "1_0", "0x1", "000000001"]:
            self.assertIsNone(sort_of_word(text), text)

    def test_signs_side_by_side_are_no_word(self):
        for text in ["", "{}", "()", "{ }", ", :", "->", "-", "*", "[", "]", "/", "==", "..", '"', "%", "~", "!"]:
            self.assertIsNone(sort_of_word(text), text)

    def test_what_is_no_string(self):
        for thing in odd_values():
            if not isinstance(thing, str):
                self.assertIsNone(sort_of_word(thing), thing)
        self.assertEqual([sort_of_word(thing) for thing in (["a"], ("a",), {"a": 1}, b"a", 0, True, None)], [None] * 7)


class IsRow(unittest.TestCase):

    def test_rows(self):
        for row in [(), ("let", "let"), ("a",), ("{", "}", "0", "999999999", "x" * 20), tuple(KEYWORDS), tuple(SIGNS)]:
            self.assertIs(is_row(row), True)

    def test_a_row_may_be_longer_than_arguments_are(self):
        self.assertIs(is_row(("a",) * 401), True)
        self.assertIs(is_row(("a",) * 6000), True)

    def test_no_rows(self):
        for thing in [("Let",), ["let"], "let", ("let", "07"), ("a b",), ("",), ("a", None), ("a", 1), (True,), (("a",),)]:
            self.assertIs(is_row(thing), False)
        for thing in [{"a": 1}, {}, [], None, True, 0, ("x" * 21,), ("a", ["b"]), ("a", {}), ("\n",), ("1" * 10,)]:
            self.assertIs(is_row(thing), False)

    def test_any_value(self):
        for thing in odd_values():
            wanted = isinstance(thing, tuple) and all(sort_of_word(word) is not None for word in thing)
            self.assertIs(is_row(thing), wanted)


class Cut(unittest.TestCase):

    def place(self, text):
        with self.assertRaises(NoWord) as caught:
            cut(text)
        return caught.exception.place

    def test_the_examples(self):
        row = ("let", "x", ":", "num", "=", "f", "(", "1", ")", "+", "a", ".", "b", ";")
        self.assertEqual(cut("let x:num=f(1)+a . b;"), row)
        self.assertEqual([self.place(text) for text in ("a Bc", "a 01", "a-1", "x 1b ?")], [2, 2, 1, 2])
        self.assertEqual([show(cut("give\nx<2 ;")), cut("")], ["give x < 2 ;", ()])

    def test_blanks_and_line_feeds_anywhere(self):
        self.assertEqual(cut("\n \n a\nb  c \n;\n"), ("a", "b", "c", ";"))
        self.assertEqual([cut(" "), cut("\n"), cut(" \n\n  ")], [(), (), ()])
        self.assertEqual(cut(" a "), ("a",))

    def test_each_sign_is_a_word(self):
        self.assertEqual(cut("{}(),:;=+<."), tuple(SIGNS))
        self.assertEqual(cut("{{a}}==1.2"), ("{", "{", "a", "}", "}", "=", "=", "1", ".", "2"))

    def test_letters_and_digits_side_by_side_are_one_word(self):
        self.assertEqual(cut("give1 ifa a1b2 trueand"), ("give1", "ifa", "a1b2", "trueand"))
        self.assertEqual(cut("n" * 20 + "+" + "1" * 9), ("n" * 20, "+", "1" * 9))

    def test_what_is_no_word(self):
        texts = ["B", "aB", "1a", "00", "07", "n" * 21, "1" * 10, "?", "a ?", "a+-", " \n_", "a\n\nA1", "a%b", "let LET"]
        self.assertEqual([self.place(text) for text in texts], [0, 0, 0, 0, 0, 0, 0, 0, 2, 2, 2, 3, 1, 4])

    def test_the_first_one_is_told(self):
        texts = ["? A", "A ?", "a ? 01", "a 01 ?", "01?", "x" * 21 + "-", "a.B-", "a  b!C", "ok 1x 2y"]
        self.assertEqual([self.place(text) for text in texts], [0, 0, 2, 2, 0, 0, 2, 4, 3])

    def test_long_texts(self):
        self.assertEqual(cut("a;" * 2000), ("a", ";") * 2000)
        self.assertEqual(self.place("a" * 4000), 0)
        self.assertEqual(self.place("a " * 1999 + "-"), 3998)
        self.assertEqual(cut("\n" * 4000), ())

    def test_what_is_no_string(self):
        for thing in odd_values():
            if not isinstance(thing, str):
                with self.assertRaises(Wrong) as caught:
                    cut(thing)
                self.assertEqual(caught.exception.place, 0)

    def test_any_string(self):
        for text in [thing for thing in odd_values() if isinstance(thing, str)]:
            try:
                self.assertTrue(is_row(cut(text)))
            except EndError as error:
                self.assertIsInstance(error, NoWord)


class Show(unittest.TestCase):

    def test_show(self):
        self.assertEqual([show(()), show(("a",)), show(("give", "x", ";"))], ["", "a", "give x ;"])

    def test_cut_of_show(self):
        for row in [(), tuple(KEYWORDS), tuple(SIGNS), ("a", "b", "1", "0", "and"), ("x" * 20, "1" * 9) * 60]:
            self.assertEqual(cut(show(row)), row)


class Numbers(unittest.TestCase):

    def test_numbers(self):
        self.assertEqual([number_of("120"), number_of("0"), number_of("999999999")], [120, 0, 999999999])
        self.assertEqual([number_word(0), number_word(7), number_word(999999999)], ["0", "7", "999999999"])

    def test_back(self):
        for integer in [0, 1, 9, 10, 99, 100, 123456789, 999999998]:
            self.assertEqual(number_of(number_word(integer)), integer)
            self.assertEqual(sort_of_word(number_word(integer)), "number")


class FreshName(unittest.TestCase):

    def test_the_examples(self):
        self.assertEqual([fresh_name(("a", "c")), fresh_name(list(LETTERS))], ["b", "a1"])

    def test_tuples_and_lists(self):
        self.assertEqual([fresh_name(()), fresh_name([]), fresh_name(["a"]), fresh_name(("b",))], ["a", "a", "b", "a"])
        self.assertEqual(fresh_name(["b", "a", "a", "num", "", "A", "x y"]), "c")

    def test_behind_z(self):
        behind = [letter + "1" for letter in LETTERS]
        self.assertEqual(fresh_name(tuple(LETTERS[:-1])), "z")
        self.assertEqual(fresh_name(tuple(LETTERS[1:] + behind)), "a")
        self.assertEqual(fresh_name(LETTERS + behind[:-1]), "z1")
        self.assertEqual(fresh_name(tuple(LETTERS + behind)), "a2")

    def test_behind_z9(self):
        names = [*LETTERS, *[letter + str(many) for many in range(1, 10) for letter in LETTERS]]
        self.assertEqual(fresh_name(names), "a10")
        self.assertEqual(fresh_name([name for name in names if name != "q7"]), "q7")

    def test_arguments_stay(self):
        names = ["a", "b"]
        fresh_name(names)
        self.assertEqual(names, ["a", "b"])


if __name__ == "__main__":
    unittest.main()
