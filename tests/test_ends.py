"""[30], and [8] by endings: which rows are beginnings, and words that end them."""

import random
import unittest

from endsahead.demands import demands, is_met
from endsahead.ends import ending, is_beginning
from endsahead.errors import EndError, NoEnding, TooMany
from endsahead.reader import read_program
from endsahead.right import is_right, is_right_row
from endsahead.shower import row_of
from endsahead.stands import can_be_read, function_at
from endsahead.words import cut, is_row, show
from authors import right_program
from libraries import library_with, library_with_blocks
from rows import HEAD, PARAMETERS, rights
from tight import head_by_chance, tight_program, walk


class TheExample(unittest.TestCase):

    def test_example(self):
        head = "once k ; plain q ; given f ( k , k ) : q ; "
        one = tuple((head + "def g ( x : k , y : k ) : q { if true { let z : k =").split(" "))
        found = [demands(one), demands((*one, "x", ";")), demands((*one, "x", ";", "}"))]
        self.assertEqual(found, [((((("k", 2),),),),), ((((("k", 2),),),),), ((((("k", 1),),),),)])
        self.assertEqual([is_beginning((*one, "x", ";")), is_beginning((*one, "x", ";", "}")), is_met(one, demands(one)[0])], [True, False, True])
        self.assertIs(is_right(read_program((*one, *ending(one)))), True)
        two = tuple((head + "def g ( x : k ) :").split(" "))
        self.assertEqual([is_beginning(two), is_beginning((*two, "k")), is_beginning((*two, "q"))], [True, True, False])
        three = tuple((head + "choice v { no , ok : k } given h ( ) : v ; given done ( k ) : q ; def u ( ) : q { match v h ( ) {").split(" "))
        self.assertIs(is_beginning(three), False)


class Beginnings(unittest.TestCase):

    def test_of_right_programs(self):
        for row in rights():
            self.assertIs(is_right_row(row), True, show(row))
            for many in range(len(row) + 1):
                self.assertIs(is_beginning(row[:many]), True, show(row[:many]))

    def test_rows_that_cannot_be_read(self):
        for text in ["a", "plain plain", "plain a ; }", "def f ( ) : q", "def f ( ) : num { }", "def f ( ) : num { give true", "record r { }", "once a ; once a", "def f ( n : num ) : num { give n ; give", "{"]:
            self.assertIs(is_beginning(tuple(text.split())), False, text)

    def test_rows_that_can_be_read(self):
        bare = "once k; plain q; record r { a: k } choice v { no, ok: k } given f(k, k): q; given h(): v; given end(k): q; "
        alive = {
            "def g(x: k): q": True, "def g(): q": False, "def g(): q {": False, "def g(x: k, y: k): q { let": True, "def g(x: k): q { let u : k": True, "def g(x: k): q { let u: r =": True, "def g(): num { open": False,
            "def g(): num { match": True, "def g(): num { open r": False, "def g(x: k): num { open": True, "def g(x: k): num { open r { y } = r { x } ; let t : r = r {": True, "def g(x: k): q { repeat 2 {": True,
            "def g(x: k): q { repeat 2 { let u : k =": False, "def g(x: k): q { repeat 2 { let u : v": True, "def g(x: k): q { if true { let u : q = end ( x ) ; }": False, "def g(x: k): q { if true { let u : q = end ( x ) ;": True,
            "def g(x: k): q { if true { let u : q = end ( x ) ; give u ; }": True, "def g(x: k): q { if true { } else { let u : q = end ( x ) ; } ": False, "def g(x: k): q { match v h ( ) { no { give end ( x ) ; } ok s { } }": True,
            "def g(): q { match v h ( ) { no {": False, "def g(): q { match v h ( ) {": False, "def g(): q { match v h ( )": False, "def g(): num { match v h ( ) { no { } ok s { give": True, "def g(x: k): q { match v ok ( x ) { no {": False,
            "def g(x: k): q { give f ( x ,": False, "def g(x: k): q { give f (": False, "def g(x: k): q { give": True, "def g(x: k, y: k): q { if true { } else { let u : q = f ( x , y ) ; } ": False,
            "def g(x: k): k { repeat 1 { give": False, "def g(x: k): k { repeat 1 { match v": True, "def g(x: k): k { repeat 1 { match v h ( ) { no { } ok s { give": True,
        }
        for text, wanted in alive.items():
            row = cut(bare + text)
            self.assertIs(can_be_read(row), True, text)
            self.assertIs(is_beginning(row), wanted, text)

    def test_what_demands_tell(self):
        for seed in range(40):
            for row in walk(seed, head_by_chance(seed), 12):
                try:
                    wanted = all([is_met(row, one) for one in demands(row)])
                except TooMany:
                    break
                self.assertIs(is_beginning(row), wanted, show(row))


class Endings(unittest.TestCase):

    def ends(self, row):
        """Ask that what ends a row makes a right program of it."""
        words = ending(row)
        self.assertTrue(is_row(words))
        self.assertIs(is_right_row((*row, *words)), True, show(row) + " | " + show(words))
        return words

    def ends_all_the_way(self, row):
        """Ask likewise, and that each row on the way is a beginning."""
        words = self.ends(row)
        for many in range(1, len(words)):
            self.assertIs(is_beginning((*row, *words[:many])), True, show((*row, *words[:many])))

    def test_at_every_word(self):
        for row in rights():
            for many in range(len(row) + 1):
                self.ends(row[:many])

    def test_each_row_on_the_way(self):
        for row in rights():
            for many in range(0, len(row) + 1, 13):
                self.ends_all_the_way(row[:many])

    def test_of_right_programs_by_chance(self):
        for seed in range(40):
            row = row_of(right_program(seed, seed % 6 + 1, seed % 7, 2, seed % 3 + 1))
            for many in random.Random(seed).choices(range(len(row) + 1), k=12):
                try:
                    self.ends_all_the_way(row[:many]) if many % 4 == 0 else self.ends(row[:many])
                except TooMany:
                    break

    def test_a_whole_program_needs_nothing(self):
        for row in [(), *rights()]:
            self.assertEqual(ending(row), ())

    def test_amid_declarations(self):
        texts = ["plain", "plain a", "once", "record", "record r", "record r {", "record r { a", "record r { a :", "record r { a : num", "record r { a : num ,", "choice", "choice c {", "choice c { a", "choice c { a :", "choice c { a ,"]
        texts += ["choice c { a : num", "given", "given g", "given g (", "given g ( num", "given g ( num ,", "given g ( )", "given g ( ) :", "given g ( ) : truth", "def", "def f", "def f (", "def f ( a", "def f ( a :", "def f ( a : num"]
        texts += ["def f ( a : num ,", "def f ( a : num , b : truth )", "def f ( ) :", "def f ( ) : num", "def f ( ) : truth {", "plain a ;", "plain a ; plain", "once a ; def f ( ) : num { give 1 ; } choice"]
        for text in texts:
            self.ends_all_the_way(tuple(text.split()))
            self.ends((*cut("plain x; once y;"), *["n" if word == "a" and "a ;" not in text else word for word in text.split()]))

    def test_expressions(self):
        texts = ["give", "give (", "give ((n", "give ((n)", "give n +", "give n + (", "give (n + 1)", "give (n + 1) +", "give c", "give c .", "give c . page", "give c . page .", "give (c", "give (c . page", "give ((c) . page) .", "give ask (", "give ask ( x ,"]
        texts += ["give ask ( pair {", "give ask ( pair { x , y", "give ask ( pair { x , y }", "give ask ( ( pair { ( x ) ,", "give ask ( make ( z ) . one , c", "give ask ( book { c . page , pair { x , y } } . other", "give write ( z ,", "give write ( z , n", "give write ( z , n <"]
        texts += ["give write ( z , n < 1 and", "give write ( z , n + 1", "give write ( z , (n + 1", "give write ( z , (n) + 1", "give write ( z , c", "give write ( z , c . page", "give write ( z , (c . page )", "give write ( z , true and n +", "give write ( z , true and (b and"]
        texts += ["if", "if n", "if n < n", "if n < n +", "if (n", "if (n) <", "if b and", "if b and c", "if b and c . page .", "if ( ( c . page )", "repeat", "repeat c", "repeat c . page", "repeat (c) . page . many", "let u : truth = n", "let u : truth = ( ( n", "let u : book = c", "let u : book =", "let u : w = far (", "let u : w = near"]
        texts += ["let u : w = nil", "let u : w = ( nil )", "match w nil", "match w ( far ( make", "match w", "match", "open", "open book", "open book { l", "open book { l ,", "open book { l , m }", "open book { l , m } = (", "open pair { l , m } = c", "open pair { l , m } = make ( z", "let", "let u", "let u :", "let u : p"]
        for text in texts:
            self.ends_all_the_way(cut(HEAD + "def g(x: k, y: k, z: p, n: num, b: truth, c: book): num {" + text))

    def test_expressions_in_a_repeat(self):
        texts = ["give", "give f (", "give f ( one ,", "let u : num = ask (", "let u : num = ask ( one ,", "let u : num = ask ( pair {", "let u : num = ask ( pair { one ,", "give f ( make ( z ) . one ,", "if ask ( one , 1 ) <", "if ask ( one , 1 ) < ask (", "let u : book =", "let u : book", "let u : book = book {"]
        texts += ["let u : book = book { write ( z , n", "let u : w = far ( pair { one", "match w far (", "match w", "match", "match v ok ( one ) {", "open", "open pair", "open book {", "open page { l , m", "open pair { l , m } = pair { one , make", "repeat ask (", "repeat n +", "let u", "let u :"]
        for text in texts:
            self.ends_all_the_way(cut(HEAD + PARAMETERS + "repeat 2 { let one : k = make ( z ) . one ; " + text))

    def test_brackets_and_names_alone(self):
        row = cut("def f(n: num): num {" + " if n < ( ( (" + " ( n")
        self.ends_all_the_way(row)
        self.ends(cut("def f(n: num): num { give " + "( " * 150))
        self.ends(cut("def f(n: num): truth { give " + "( " * 150 + "n"))

    def test_blocks(self):
        texts = ["", "if b", "if b {", "if b { }", "if b { } else", "if b { } else {", "if b { give f ( x , y ) ;", "if b { give f ( x , y ) ; }", "if b { give f ( x , y ) ; } else", "if b { give f ( x , y ) ; } else { give f ( x , y ) ; }"]
        texts += ["match v h ( )", "match v h ( ) {", "match v h ( ) { no", "match v h ( ) { no {", "match v h ( ) { no { give f ( x , y ) ; }", "match v h ( ) { no { } ok", "match v h ( ) { no { } ok s", "match v h ( ) { no { } ok s {", "match v h ( ) { no { } ok s { }"]
        texts += ["match v ok ( x ) { no { give f ( y , make ( z ) . one ) ; } ok", "match v ok ( x ) { no { give f ( y , make ( z ) . one ) ; } ok s { give f ( s , y ) ; }", "match w far ( make ( z ) ) { near s { let u : k = x ; } far s { give f ( s . one , y ) ; }"]
        texts += ["repeat 1", "repeat 1 {", "repeat 1 { give f ( make ( z ) . one , make ( z ) . two ) ;", "repeat 1 { if b { repeat 2 { match v h ( ) { no { if b { } else {", "repeat 1 { }", "repeat 1 { match v h ( ) { no { } ok s { } } }"]
        texts += ["if b { match v h ( ) { no { if b { } else { repeat 3 { let u : k = make ( z ) . one ; if n < 1 {", "if b { } else { let u : num = ask ( x , 1 ) ; match v h ( ) { no { } ok s { if b { let t : num = ask ( s , 2 ) ; }"]
        for text in texts:
            self.ends_all_the_way(cut(HEAD + PARAMETERS + text))

    def test_with_just_enough(self):
        """Where nothing may be wasted: blocks that cannot be left have to give."""
        bare = "once k; once l; plain q; choice v { no, ok: k } record r { a: k, c: l } given f(k, l): q; given h(): v; given burn(k): num; "
        texts = ["def g(x: k, y: l): q { if true { let u: num = burn(x) ; give f(x1 , y ) ; }", "def g(x: k, x1: k, y: l): q { if true { let u: num = burn ( x ) ;", "def g(x: k, y: l): q { match v h ( ) { no {", "def g(x: k, y: l): q { match v h ( ) { no { give f ( x , y ) ; } ok"]
        texts += ["def g(x: r): q { let u : k =", "def g(x: r): q { open r", "def g(x: r, z: r): q { let u : k = x", "def g(x: r): q { open r { c , a } =", "def g(y: l): q { match v h ( ) {", "def g(x: k, y: l): q { if burn ( x ) < 2 { repeat 3 {"]
        texts += ["def g(x: k, y: l): q { if 1 < 2 { let u : r = r {", "def g(x: k, y: l): q { if true { let u : k = x ; if true { let t : k = u ;", "def g(x: k, y: l): q { match", "def g(x: r): q { open"]
        alive = 0
        for text in texts:
            row = cut(bare + text)
            if is_beginning(row):
                self.ends_all_the_way(row)
                alive += 1
        self.assertEqual(alive, 10)

    def test_just_one_way_leaves_enough(self):
        bare = "once a; once b; once c; plain p; plain q; given fa(a): p; given fb(b): p; given fc(c): p; "
        for last, name in zip("abc", "xyz"):
            head = bare + f"given end({last}): q; def g(x: a, y: b, z: c): q {{ "
            for text in ["let u : p =", "let u : p", "let u : p = (", "if true { } let u : p = ( ("]:
                row = cut(head + text)
                words = self.ends(row)
                self.assertNotIn(name, words[:words.index(";")])

    def test_just_one_record_or_choice_leaves_enough(self):
        bare = "once a; once c; plain q; record bad { k: c } record good { l: a } choice ill { m: c } choice well { n: a } given turn(a): c; given end(a): q; def g(x: a): q { "
        for text, wanted in {"open": "good", "match": "well", "if true { open": "good", "if true { } else { match": "well"}.items():
            self.assertEqual(self.ends(cut(bare + text))[0], wanted)

    def test_of_tight_programs(self):
        rows = 0
        for seed in range(45):
            program = tight_program(seed)
            if program is not None:
                row = row_of(program)
                begin = row.index("def")
                for many in range(begin, len(row) + 1):
                    self.assertIs(is_beginning(row[:many]), True, show(row[:many]))
                for many in random.Random(seed).choices(range(begin, len(row)), k=5):
                    self.ends_all_the_way(row[:many])
                rows += 1
        self.assertGreater(rows, 30)

    def test_on_walks(self):
        """Wherever chance leads along beginnings, there is an ending."""
        ends = 0
        for seed in range(25):
            head = head_by_chance(seed)
            try:
                for row in walk(seed, head, 25, is_beginning):
                    self.ends(row)
                    ends += 1
            except TooMany:
                continue
        self.assertGreater(ends, 200)

    def test_names_that_new_words_must_not_take(self):
        names = "abcdefghij"
        heads = [
            "plain a; record b { c: num, d: a } choice e { f, g: num } given h(): num; def i(j: num): num { let",
            "plain a; record b { c: num, d: num } choice e { f, g: num } def i(a1: num): num { match e f { f { } g",
            "once a; record b { c: a, d: num } choice e { f, g: a } def i(j: b): a { let k: num = 1; open b {",
            "once a; choice b { c: a, d } given e(): b; def f(g: num): num { match b e ( ) { c h { let i : num = 1 ; } d { let j : num =",
            "plain a; record b",
            "record a { b: num, c: num } def d(e: a): num { open a { b , c } = e ; open a {",
        ]
        for text in heads:
            row = cut(text)
            words = self.ends(row)
            told = [word for word in words if len(word) == 1 and word in names and word not in row]
            self.assertTrue(set(told).isdisjoint(row), words)
        crowded = "".join(f"plain {letter}; " for letter in "abcdefghijklmnopqrstuvwxyz")
        self.assertIn("a1", self.ends(cut(crowded + "def")))
        self.assertIn("b1", self.ends(cut(crowded + "def f1(a1: num): num { let")))


class NoEndings(unittest.TestCase):

    def test_no_ending(self):
        rows = [("a",), ("plain", "plain"), (";",), cut("once k; def f(): k"), cut("once k; def f(): k {"), cut("def f(): num { give true"), cut("def f(n: num): num { }"), cut("once k; def f(x: k): k { if true { let y: k = x; }"), cut("def f(): num { open")]
        for row in rows:
            with self.assertRaises(NoEnding):
                ending(row)
        self.assertTrue(issubclass(NoEnding, EndError))

    def test_just_where_there_is_no_beginning(self):
        dead = 0
        for seed in range(40):
            for row in walk(seed, head_by_chance(seed), 10):
                try:
                    alive = is_beginning(row)
                except TooMany:
                    break
                if alive:
                    self.assertTrue(is_right_row((*row, *ending(row))))
                else:
                    dead += 1
                    with self.assertRaises(NoEnding):
                        ending(row)
        self.assertGreater(dead, 50)

    def test_what_is_dead_stays_dead(self):
        """Behind a row that is no beginning, no row is one, and none is that of a right program."""
        dead = 0
        for seed in range(40):
            try:
                tells = [is_beginning(row) for row in walk(seed, head_by_chance(seed), 20)]
            except TooMany:
                continue
            self.assertEqual(tells, sorted(tells, reverse=True))
            dead += tells.count(False)
        self.assertGreater(dead, 200)


class TooManyMembers(unittest.TestCase):

    def test_where_tables_are_needed(self):
        ahead = row_of(library_with(61))
        for text in ["def g ( s : q ) : q { give", "def g ( s : q ) : q { let u : q ="]:
            for ask in (is_beginning, ending):
                with self.assertRaises(TooMany) as caught:
                    ask((*ahead, *text.split()))
                self.assertEqual(caught.exception.most, 60)
        row = (*row_of(library_with_blocks(61)), *"def g ( s : q ) : q {".split())
        for ask in (is_beginning, ending):
            with self.assertRaises(TooMany):
                ask(row)
        row = (*row_of(library_with_blocks(60)), *"def g ( s : v0 ) : q {".split())
        self.assertIs(is_beginning(row), True)
        self.assertIs(is_right_row((*row, *ending(row))), True)

    def test_where_none_are(self):
        for library in (library_with(61), library_with_blocks(61)):
            ahead = row_of(library)
            for text in ["", "plain m9", "plain m9 ;", "def", "def g", "def g ( s : q", "def g ( s : q )", "def g ( s : q ) :", "def g ( ) : num { give 1 ; }", "def g ( s : q ) : q { give s ; } once"]:
                row = (*ahead, *text.split())
                self.assertIs(is_beginning(row), True, text)
                self.assertIs(is_right_row((*row, *ending(row))), True, text)
                self.assertIs(is_beginning((*row, "}")), False, text)

    def test_behind_all_other_errors(self):
        ahead = row_of(library_with(61))
        for text in ["}", "def g ( s : q ) : q { give s ; give", "def g ( ) : q { }"]:
            with self.assertRaises(NoEnding):
                ending((*ahead, *text.split()))
        # One demand is met by nothing, whatever the table of blocks is.
        row = (*row_of(library_with_blocks(61)), *"def g ( s : q , t : k ) : q { repeat 1 { let u : k =".split())
        with self.assertRaises(NoEnding):
            ending(row)
        self.assertIs(is_beginning(row), False)


class Arguments(unittest.TestCase):

    def test_arguments_are_not_changed_and_results_are_the_same(self):
        row = rights()[5][:60]
        self.assertEqual(ending(row), ending(tuple(list(row))))
        self.assertIsInstance(ending(row), tuple)

    def test_rows_at_the_bounds(self):
        """Rows of about 400 words, blocks and E twelve deep."""
        deep = "if b { " * 6 + "match v h ( ) { no { " * 3
        row = cut(HEAD + PARAMETERS + deep + "let u : num = " + "ask ( make ( z ) . one , " * 12)
        words = ending(row)
        self.assertIs(is_right_row((*row, *words)), True)
        row = cut(HEAD + PARAMETERS + "let u : num = " + " + ".join(["n"] * 120) + " + ")
        self.assertGreater(len(row), 380)
        self.assertIs(is_right_row((*row, *ending(row))), True)
        row = cut(HEAD + PARAMETERS + "repeat 2 { " * 12)
        self.assertIs(is_right_row((*row, *ending(row))), True)
        self.assertEqual(function_at((*row, *ending(row))), None)


if __name__ == "__main__":
    unittest.main()
