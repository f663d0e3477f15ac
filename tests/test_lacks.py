"""[33]: from which further parameters on a row would be a beginning."""

import random
import unittest
from itertools import product

from endsahead.ends import is_beginning
from endsahead.errors import TooMany
from endsahead.lacks import is_lack, lacks, widened
from endsahead.library import is_stock, kinds_in, once_kinds
from endsahead.reader import read_program
from endsahead.shower import row_of
from endsahead.stands import can_be_read, names_at
from endsahead.stocks import is_above, least_of
from endsahead.words import cut, is_row, show
from libraries import library_with, library_with_blocks
from rows import rights
from tight import head_by_chance, walk

HEAD = "once k; once l; plain q; plain p; record pair { one: k, two: l } choice v { no, ok: k } given f(k, l, p): q; given h(): v; given burn(k): num; given turn(p): l; "


def stock(text):
    """Return the stock that a text shows: kinds with blanks between."""
    kinds = text.split()
    return tuple((kind, kinds.count(kind)) for kind in sorted(set(kinds)))


def stocks(*texts):
    return tuple(sorted(stock(text) for text in texts))


class TheExample(unittest.TestCase):

    def test_example(self):
        head = "once k ; plain q ; given f ( k , k ) : q ; "
        one = tuple((head + "def g ( x : k ) :").split(" "))
        self.assertEqual(lacks((*one, "q", "{")), ((("k", 1),), (("q", 1),)))
        self.assertEqual(" ".join(widened((*one, "q"), (("k", 2),))[-15:]), "( x : k , new1 : k , new2 : k ) : q")
        self.assertIs(is_lack((*one, "q", "{"), (("k", 2),)), True)


class Widened(unittest.TestCase):

    def test_widened(self):
        head = "once k; plain q; "
        cases = [
            ("def g():", "k k q", "def g(new1: k, new2: k, new3: q):"), ("def g(x: k): q {", "q", "def g(x: k, new1: q): q {"), ("def g(x: k): q {", "", "def g(x: k): q {"), ("def g()", "k", "def g(new1: k)"),
            ("def g(new1: k, a: k): q { let new3: num = 2; give", "k k k", "def g(new1: k, a: k, new2: k, new4: k, new5: k): q { let new3: num = 2; give"), ("def g(): q { if (1 < 2) { let u: num = (3", "k", "def g(new1: k): q { if (1 < 2) { let u: num = (3"),
            ("given new1(): k; def new2(): q { give", "k", "given new1(): k; def new2(new3: k): q { give"), ("def e(x: k): num { give 1; } def g(): q {", "k", "def e(x: k): num { give 1; } def g(new1: k): q {"), ("def g(x: truth, y: num): truth { repeat (y) { let", "q", "def g(x: truth, y: num, new1: q): truth { repeat (y) { let"),
        ]
        for text, more, wanted in cases:
            self.assertEqual(widened(cut(head + text), stock(more)), cut(head + wanted), text)

    def test_names_of_fields_and_arms_are_not_taken(self):
        row = cut("record r { new1: num } choice c { new2, new4: num } def g(): r {")
        self.assertEqual(widened(row, (("c", 1), ("r", 1)))[-13:], tuple("g ( new3 : c , new5 : r ) : r {".split())[-13:])

    def test_many(self):
        row = widened(cut("once k; def g(new12: k): num {"), (("k", 30),))
        self.assertEqual(row[-6:], ("new31", ":", "k", ")", ":", "num", "{")[-6:])
        self.assertEqual([row.count(f"new{at}") for at in range(33)], [0, *[1] * 31, 0])
        self.assertTrue(can_be_read(row))

    def test_it_can_be_read_and_its_names_can_be_seen(self):
        for seed in range(30):
            head = head_by_chance(seed)
            for row in walk(seed, head, 9)[::4]:
                library = read_program(head[:head.index("def")])
                chance = random.Random(seed)
                kinds = chance.sample(kinds_in(library), min(2, len(kinds_in(library))))
                put = tuple((kind, chance.randint(1, 2) if kind in once_kinds(library) else 1) for kind in sorted(kinds))
                wide = widened(row, put)
                self.assertTrue(is_row(wide))
                self.assertIs(can_be_read(wide), True, show(wide))
                seen = names_at(wide)
                told = [kind for name, (kind, _) in seen.items() if name not in names_at(row)]
                self.assertEqual(sorted(told), sorted(kind for kind, count in put for _ in range(count)))


class Lacks(unittest.TestCase):

    def test_of_beginnings(self):
        for row in [(), *rights()]:
            for many in range(0, len(row) + 1, 10):
                self.assertEqual(lacks(row[:many]), ((),))

    def test_where_no_function_is_open(self):
        for text in ["", "plain", "plain p9 ;", "record r { a", "def", "def g", "def g (", "def g ( x : k", "def g ( x : k )", "def g ( x : k ) :", "def g ( ) : num { give 1 ; }", "def g ( x : k ) : k { give x ; } once"]:
            row = cut("once k; once j;" + text)
            self.assertEqual(lacks(row), ((),), text)
            self.assertIs(is_lack(row, ()), True, text)

    def test_what_lacks(self):
        texts = {
            "def g(): k": ["k", "pair"], "def g(): k {": ["k", "pair"], "def g(x: pair): k": [""], "def g(): q": ["k l p", "k p", "p pair", "q"], "def g(x: p): q": ["k", "pair", "q"], "def g(x: k): q {": ["p", "q"], "def g(x: k, y: l): q {": ["p", "q"],
            "def g(x: k, z: p): q { give f ( x , turn ( z ) ,": [""], "def g(x: k): q { give f ( x ,": ["p"], "def g(): q { give f (": ["k p", "p pair"], "def g(): q { let u: k =": ["k p", "k q", "p pair", "pair q"],
            "def g(x: k): q { let u: num = burn ( x ) ;": ["k p", "p pair", "q"], "def g(x: k): q { let u: num = burn (": ["k p", "p pair", "q"], "def g(): q { give": ["k p", "p pair", "q"], "def g(): num { open": ["k l", "k p", "pair"], "def g(): p { open pair {": ["k p", "p pair"],
            "def g(): num { let u : pair = pair {": ["k l", "k p", "k pair", "l pair", "p pair", "pair pair"], "def g(): k { match v": ["k", "pair"], "def g(x: l, z: p): q { if true { let u: k =": ["k", "pair"], "def g(): k { if true {": ["k", "pair"],
            "def g(x: k): k { if true { let u: num = burn(x); } let": ["k", "pair"], "def g(x: k): k { if true { } else { let u: num = burn(x); } ": ["k", "pair"], "def g(): k { match v h() {": ["k", "pair"], "def g(): k { match v h() { no { give": ["k", "pair"],
            "def g(): k { match v h() { no { } ok t { give t ;": ["k", "pair"], "def g(): k { repeat 3 {": ["k", "pair"], "def g(): num { repeat 3 { let u: k =": None, "def g(): num { repeat 3 { let u: l =": ["p"], "def g(): k { repeat 3 { let u: l =": ["k p", "p pair"],
            "def g(): num { repeat 3 { let u: q = ": ["q"], "def g(): num { repeat 3 { let u: num = burn (": None, "def g(): num { repeat 3 { let u: pair = pair {": None, "def g(): l { repeat 3 { give": ["p"],
            "def g(): num { repeat 3 { match": [""], "def g(): num { repeat 3 { open": None, "def g(x: k): q { repeat burn(x) {": ["k p", "p pair", "q"],
        }
        for text, wanted in texts.items():
            row = cut(HEAD + text)
            self.assertIs(can_be_read(row), True, text)
            self.assertEqual(is_beginning(row), wanted == [""], text)
            found = lacks(row)
            for one in found:
                self.assertIs(is_lack(row, one), True, (text, one))
            self.assertEqual(found, least_of([stock(one) for one in wanted or []]), text)

    def ask(self, row, kinds, once, most):
        """Hold what is told against stocks of up to so many of each once kind; return it."""
        found = lacks(row)
        self.assertIsInstance(found, tuple)
        self.assertEqual(found, least_of(found))
        self.assertEqual(found == ((),), is_beginning(row), show(row))
        told = [tuple((kind, count) for kind, count in zip(kinds, counts) if count) for counts in product(*[range(most + 1 if kind in once else 2) for kind in kinds])]
        for one in random.Random(len(row)).sample(told, min(12, len(told))):
            self.assertIs(is_lack(row, one), any(is_above(one, low) for low in found), (show(row), one, found))
        for one in found[:6]:
            self.assertIs(is_lack(row, one), True, (show(row), one))
            for at, (kind, count) in enumerate(one):
                less = (*one[:at], *([(kind, count - 1)] if count > 1 else []), *one[at + 1:])
                self.assertIs(is_lack(row, less), False, (show(row), less, found))
        return found

    def test_by_chance(self):
        lots = []
        for seed in range(50):
            head = head_by_chance(seed)
            library = read_program(head[:head.index("def")])
            for row in walk(seed, head, 14)[::5]:
                try:
                    lots.append(self.ask(row, kinds_in(library), once_kinds(library), 2))
                except TooMany:
                    break
                self.assertTrue(all(is_stock(library, one) for one in lots[-1]))
        told = {len(lot) if lot != ((),) else -1 for lot in lots}
        self.assertTrue({-1, 0, 1, 2, 3} <= told, told)
        self.assertTrue(any(count > 1 for lot in lots for one in lot for _, count in one))
        self.assertGreater(len(lots), 90)

    def test_of_texts(self):
        library = read_program(cut(HEAD))
        texts = ["def g(): q { give f (", "def g(x: k): q { match v h() { no { let u: num = burn(x);", "def g(): q { match v h() { no { } ok t { let u: q = f ( t ,", "def g(x: l): q { if true { } else { let u: l = x; match v", "def g(x: pair): q { open pair { a , b } = x ; let u : pair ="]
        texts += ["def g(): q { repeat 2 { let u : q = f (", "def g(): q { repeat 2 { match v h ( ) { no { } ok t { let u : pair = pair { t ,", "def g(x: p): q { if true { let u: pair = pair {", "def g(): v { match", "def g(): pair { open", "def g(): pair { match v ok ("]
        for text in texts:
            self.ask(cut(HEAD + text), kinds_in(library), once_kinds(library), 2)

    def test_counts_of_several(self):
        bare = "once k; plain q; given f(k, k, k): q; given g1(q, q): k; "
        self.assertEqual(lacks(cut(bare + "def g(): q {")), stocks("k k k", "q"))
        self.assertEqual(lacks(cut(bare + "def g(x: k): q { give f (")), stocks("k k", "q"))
        self.assertEqual(lacks(cut(bare + "def g(x: k): q { if 1 < 2 { let u: k = x; } else { let t : k = x ; let s : k =")), stocks("k k k", "q"))
        self.assertEqual(lacks(cut("once k; given f(k, num): num; def g(x: k): num { let u : num = f ( x , f ( ")), stocks("k"))
        self.assertEqual(lacks(cut("once k; given f(k, k): k; def g(): num { let u : k = f ( f ( f (")), stocks("k k k k"))

    def test_nothing_will_do(self):
        rows = ["once k; def g(): num { open", "once k; def g(): k { match", "once k; def g(): num { repeat 2 { let u : k =", "once k; def g(x: k): num { repeat 2 { repeat 2 { let u : k", "once k; record r { a: k } def g(x: r): r { repeat 1 { open"]
        for text in rows:
            self.assertIs(can_be_read(cut(text)), True)
            self.assertEqual(lacks(cut(text)), (), text)
            self.assertIs(is_lack(cut(text), (("k", 5),)), False)

    def test_equal_rows_tell_the_same(self):
        row = cut(HEAD + "def g(): q { give f (")
        self.assertEqual(lacks(row), lacks(tuple(list(row))))
        self.assertEqual(widened(row, (("k", 1),)), widened(row, (("k", 1),)))


class TooManyMembers(unittest.TestCase):

    def test_where_tables_are_needed(self):
        for library in (library_with(61), library_with_blocks(61)):
            row = (*row_of(library), *"def g ( s : k ) : q {".split())
            with self.assertRaises(TooMany) as caught:
                lacks(row)
            self.assertEqual(caught.exception.most, 60)
            with self.assertRaises(TooMany):
                is_lack(row, (("k", 1),))

    def test_where_none_are(self):
        for library in (library_with(61), library_with_blocks(61)):
            for text in ["", "plain m9", "def g", "def g ( s : q", "def g ( s : q ) :", "def g ( ) : num { give 1 ; }"]:
                self.assertEqual(lacks((*row_of(library), *text.split())), ((),), text)
            row = (*row_of(library), *"def g ( s : q ) :".split())
            self.assertIs(is_lack(row, (("k", 2),)), True)
            self.assertEqual(widened((*row, "q"), (("k", 1),))[-10:], tuple("( s : q , new1 : k ) : q".split())[-10:])


if __name__ == "__main__":
    unittest.main()
