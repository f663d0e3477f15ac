"""[32], and [8] by offers: the first dead word, and the words that lead on."""

import random
import unittest

from endsahead.ends import ending, is_beginning
from endsahead.errors import TooMany
from endsahead.offers import first_dead, is_offered, offers
from endsahead.right import is_right_row
from endsahead.shower import row_of
from endsahead.stands import can_be_read, first_unread
from endsahead.words import KEYWORDS, SIGNS, cut, show, sort_of_word
from authors import right_program
from libraries import library_with, library_with_blocks
from rows import HEAD, PARAMETERS, rights
from tight import head_by_chance, walk

NEW_NAMES = ("unheard", "q9z")
NUMBERS = ("0", "999999999")


def slow_first_dead(row):
    """Return the first dead index, word by word."""
    return next((at for at in range(len(row)) if not is_beginning(row[:at + 1])), None)


class TheExample(unittest.TestCase):

    def test_example(self):
        head = "once k ; plain q ; given f ( k , k ) : q ; "
        one = tuple((head + "def g ( x : k ) :").split(" "))
        self.assertEqual(offers(one), (("k", "num", "truth"), False, False))
        self.assertEqual([first_dead((*one, "q", "{")) == len(one), is_offered(one, "q")], [True, False])
        two = tuple((head + "def g ( x : k , y : k ) : q { give f (").split(" "))
        self.assertEqual([offers(two), offers((*two, "x", ","))], [(("(", "x", "y"), False, False), (("(", "y"), False, False)])
        found = [offers((*two, "x", ",", "y", ")")), offers(())]
        self.assertEqual(found, [((";",), False, False), (("choice", "def", "given", "once", "plain", "record"), False, False)])


class FirstDead(unittest.TestCase):

    def test_of_beginnings(self):
        self.assertIs(first_dead(()), None)
        for row in rights():
            for many in range(0, len(row) + 1, 9):
                self.assertIs(first_dead(row[:many]), None)

    def test_of_what_cannot_be_read(self):
        texts = {"a": 0, "plain plain": 1, "plain a ; b": 3, "} plain": 0, "def f ( ) : q {": 5, "def f ( ) : num { }": 7, "def f ( ) : num { give 1 ; } }": 11, "def f ( ) : num { give true ; give": 8, "record r { } once": 3}
        for text, wanted in texts.items():
            self.assertEqual(first_dead(tuple(text.split())), wanted, text)

    def test_of_what_can_be_read(self):
        bare = "once k; plain q; given f(k, k): q; given burn(k): num; "
        # In each text the word ahead of which a `|` stands is the first dead one.
        texts = ["def g(x: k): | q {", "def g(): | q { let u : num = 1", "def g(x: k, y: k): q { let u: num = | burn(x) ; if true {", "def g(x: k, y: k): q { if true { let u: num = | burn(x); } let", "def g(x: k): num { | open", "def g(x: k): | q", "def g(): | k {"]
        texts += ["def g(x: k, y: k): q { if true { let z: k = x; | } let t: num = 1; give", "def g(x: k, y: k): q { repeat | burn(x", "def g(x: k, y: k): q { repeat 2 { let u: | k = burn", "def g(x: k): num { repeat 2 { let u : | k", "def g(x: k, y: k): q { repeat 2 { | give"]
        for text in texts:
            at = len(cut(bare + text.partition("|")[0]))
            row = cut(bare + text.replace("|", ""))
            self.assertIs(can_be_read(row), "let u: | k = burn" not in text, text)
            self.assertEqual([first_dead(row), slow_first_dead(row)], [at, at], text)
        # Functions ahead have ended, so they are not dead.
        row = cut(bare + "def e(x: k, y: k): q { give f(x, y); } def g(x: k): q { let u")
        self.assertEqual(row[first_dead(row)], "q")
        self.assertEqual(first_dead(row), len(row) - 4)

    def test_dead_ahead_of_what_cannot_be_read(self):
        row = cut("once k; plain q; def g(x: k): q { let let")
        self.assertEqual([first_unread(row), row[first_dead(row)], first_dead(row)], [17, "q", 14])
        row = cut("once k; plain q; def g(x: k): k { let let")
        self.assertEqual([first_unread(row), first_dead(row)], [17, 17])

    def test_it_is_the_first_one(self):
        dead = 0
        for seed in range(40):
            rows = walk(seed, head_by_chance(seed), 25)
            row = random.Random(seed).choice(rows) if rows else ()
            try:
                self.assertEqual(first_dead(row), slow_first_dead(row), show(row))
            except TooMany:
                continue
            dead += first_dead(row) is not None
        self.assertGreater(dead, 12)

    def test_of_rows_with_words_exchanged(self):
        dead = 0
        for seed in range(40):
            chance = random.Random(seed)
            row = list(row_of(right_program(seed, 5, 4, 1, 2)))
            for at in chance.choices(range(len(row)), k=2):
                row[at] = chance.choice(row)
            try:
                self.assertEqual(first_dead(tuple(row)), slow_first_dead(tuple(row)), show(row))
            except TooMany:
                continue
            dead += first_dead(tuple(row)) is not None
        self.assertGreater(dead, 25)


class Offers(unittest.TestCase):

    def ask(self, row):
        """Hold what is offered against each word that there is; return it."""
        found = offers(row)
        self.assertIsInstance(found, tuple)
        names = {word for word in row if sort_of_word(word) == "name"}
        wanted = sorted(word for word in {*KEYWORDS, *SIGNS, *names} if is_beginning((*row, word)))
        self.assertEqual(found[0], tuple(wanted), show(row))
        for new in NEW_NAMES:
            self.assertNotIn(new, row)
            self.assertIs(found[1], is_beginning((*row, new)), show(row))
            self.assertIs(is_offered(row, new), found[1])
        for number in NUMBERS:
            self.assertIs(found[2], is_beginning((*row, number)), show(row))
            self.assertIs(is_offered(row, number), found[2])
        return found

    def test_is_offered_tells_the_same(self):
        for text in ["", "if b {", "if b { } else { give f ( x", "let u : w =", "match w far (", "repeat n", "let u : num = ask ( x ,", "open"]:
            row = cut(HEAD + PARAMETERS + text)
            words = offers(row)[0]
            for word in [*KEYWORDS, *SIGNS, *sorted(set(row))]:
                if sort_of_word(word) != "number":
                    self.assertIs(is_offered(row, word), word in words, (text, word))

    def test_what_is_offered(self):
        texts = {
            "": (("give", "if", "let", "match", "open", "repeat"), False, False), "let": (("at", "book", "far"), None, None), "let u": ((":",), False, False), "let u :": (("book", "k", "num", "p", "page", "pair", "q", "truth", "v", "w"), False, False),
            "let u : num =": (("(", "ask", "book", "n", "page", "write"), False, True), "let u : num = n": (("+", ";"), False, False), "let u : truth = n": (("+", "<"), False, False), "let u : truth =": (("(", "ask", "b", "book", "false", "n", "page", "true", "write"), False, True),
            "let u : page = write ( z , b )": ((";",), False, False), "let u : num = write ( z , b )": ((".",), False, False), "let u : num = write ( z , b ) .": (("many",), False, False), "open": (("book", "page", "pair"), False, False),
            "match": (("v", "w"), False, False), "match w nil": (("{",), False, False), "match w nil {": (("near",), False, False), "match w nil { near": (("at", "many"), None, None), "give f ( x , y )": ((";",), False, False),
            "give f ( x , y ) ;": (("}",), False, False), "if b { }": (("else", "give", "if", "let", "match", "open", "repeat"), False, False), "if b": (("and", "{"), False, False), "repeat": (("(", "ask", "book", "n", "page", "write"), False, True),
        }
        for text, (words, new, number) in texts.items():
            row = cut(HEAD + PARAMETERS + text)
            found = self.ask(row)
            if new is None:
                self.assertTrue(set(words) - {"book", "far"} <= {*found[0], *words} and found[1:] == (True, False), (text, found))
            else:
                self.assertEqual(found, (words, new, number), text)

    def test_names_of_fields_and_arms_are_offered_as_new_ones(self):
        found = self.ask(cut(HEAD + PARAMETERS + "let"))
        for word in ["one", "two", "at", "many", "sure", "page1"]:
            self.assertIs(word in found[0], word != "page1", word)
        for word in ["no", "ok", "near", "k", "f", "x", "n", "g"]:
            self.assertNotIn(word, found[0])
        found = self.ask(cut(HEAD + "record more {"))
        for word in ["no", "ok", "k", "f", "one", "more"]:
            self.assertIn(word, found[0])
        self.assertEqual(found[1:], (True, False))

    def test_in_heads(self):
        texts = ["plain", "plain a", "record", "record r {", "record r { a", "record r { a :", "record r { a : num", "choice c {", "choice c { a", "choice c { a ,", "given g", "given g (", "given g ( num", "given g ( num ,", "def", "def g", "def g (", "def g ( a", "def g ( a : num", "def g ( )", "def g ( ) :", "def g ( ) : num"]
        for text in texts:
            self.ask(cut("plain p; once k; record t { a: k, b: p } choice u { m, n: t } " + text))
            self.ask(cut(text))

    def test_wherever_a_right_program_stands(self):
        for row in rights():
            for many in range(5, len(row) + 1, 16):
                self.ask(row[:many])

    def test_by_chance(self):
        asked = 0
        for seed in range(20):
            for row in walk(seed, head_by_chance(seed), 12, is_beginning)[::4]:
                try:
                    self.ask(row)
                    asked += 1
                except TooMany:
                    break
        self.assertGreater(asked, 18)

    def test_something_is_offered_until_the_end_and_the_next_word_always(self):
        for seed in range(25):
            row = row_of(right_program(seed, 4, 4, 1, 2))
            for many in random.Random(seed).choices(range(len(row)), k=4):
                try:
                    words, new, number = offers(row[:many])
                except TooMany:
                    break
                word = row[many]
                told = number if sort_of_word(word) == "number" else word in words or (new and word not in row[:many])
                self.assertIs(told, True, show(row[:many + 1]))

    def test_each_offered_word_leads_to_a_right_program(self):
        for row in rights()[::3]:
            for many in range(100, len(row), 31):
                words, new, number = offers(row[:many])
                for word in [*words, *(["unheard"] if new else []), *(["12"] if number else [])]:
                    longer = (*row[:many], word)
                    self.assertIs(is_right_row((*longer, *ending(longer))), True, show(longer))

    def test_of_whole_programs(self):
        wanted = (("choice", "def", "given", "once", "plain", "record"), False, False)
        for row in [(), *rights()]:
            self.assertEqual(offers(row), wanted)


class TooManyMembers(unittest.TestCase):

    def test_where_tables_are_needed(self):
        for library in (library_with(61), library_with_blocks(61)):
            row = (*row_of(library), *"def g ( s : k ) : q {".split())
            with self.assertRaises(TooMany):
                first_dead(row)
            with self.assertRaises(TooMany):
                is_offered(row[:-1], "{")

    def test_where_none_are(self):
        for library in (library_with(61), library_with_blocks(61)):
            ahead = row_of(library)
            for text in ["", "plain m9", "def", "def g ( s : q ) :", "def g ( ) : num { give 1 ; }", "def g ( s : q ) : q { give s ; } once"]:
                row = (*ahead, *text.split())
                self.assertIs(first_dead(row), None, text)
                self.assertEqual(first_dead((*row, "}")), len(row), text)
            self.assertEqual(offers(ahead)[0], ("choice", "def", "given", "once", "plain", "record"))
            self.assertEqual(offers((*ahead, "def", "g"))[0], ("(",))
            self.assertIs(is_offered(ahead, "}"), False)

    def test_functions_ahead_are_not_asked_again(self):
        """A function that has ended needs no tables, though its own declarations have too many."""
        row = (*row_of(library_with(61)), *"def g ( s : q ) : q { give s ; }".split(), *"given all ( ) : k ; given most2 ( ) : q ; def e9 ( ) : q {".split())
        self.assertIs(first_dead((*row, "let", "u9", ":", "num", "=")), None)
        self.assertEqual(first_dead((*row, "let", "u9", ":", "num", "=", "=")), len(row) + 5)
        # The words in the midst of the row stand in the function that has ended.
        long = "let u9 : num = 0 " + "+ 0 " * 150 + ";"
        row = (*row_of(library_with(61)), *f"def g ( s : q ) : q {{ {long} give s ; }}".split(), *"given all ( ) : k ; given most2 ( ) : q ; def e9 ( ) :".split())
        self.assertEqual(first_dead((*row, *"a { let u9 : num = 1 ;".split())), len(row))


if __name__ == "__main__":
    unittest.main()
