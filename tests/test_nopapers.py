"""[31], and [8] by papers: what shows that nothing ends a row."""

import random
import unittest

from endsahead.blocks import block_stocks
from endsahead.demands import demands, is_met
from endsahead.ends import is_beginning
from endsahead.errors import TooMany
from endsahead.making import least_stocks
from endsahead.nopapers import is_none_paper, none_paper
from endsahead.reader import read_program
from endsahead.shower import row_of
from endsahead.stands import can_be_read
from endsahead.words import cut, show
from libraries import library_with, library_with_blocks
from samples import odd_values
from slow import above, least, once_of, rules, steps, sums
from tight import head_by_chance, walk

HEAD = "once k; plain q; choice v { no, ok: k } given f(k, k): q; given h(): v; given burn(k): num; "


def dead_rows():
    """Return rows that can be read, and that nothing ends, with the place of the first demand that is not met."""
    texts = {
        "def g(): q": 0, "def g(x: k): q {": 0, "def g(x: k): q { let u : q": 0, "def g(x: k, y: k): q { if true { let u: num = burn(x); }": 0, "def g(x: k, y: k): q { if true { } else { let u: num = burn(x); }": 0,
        "def g(x: k): q { match v h() {": 0, "def g(x: k): q { match v h() { no { give": 1, "def g(x: k, y: k): q { match v h() { no { give f(x, y); } ok s { let u: num = burn(x); let t: num = burn(y); ": 1,
        "def g(x: k, y: k): q { if true { } else { let u: num = burn(x); ": 1, "def g(x: k, y: k): q { repeat burn(x) { ": 0, "def g(x: k, y: k): q { repeat 2 { let u: k =": 1, "def g(x: k, y: k): q { repeat 2 { let u : num = burn (": 1,
        "def g(x: k, y: k): q { if true { let s: num = burn(x); } else { repeat 2 { give": 0, "def g(x: k, y: k): q { if true { } else { repeat 2 { give": 2, "def g(): num { open": 0, "def g(): k { repeat 1 { let u : v = ok (": 0,
        "def e(x: k, y: k): q { give f(x, y); } def g(x: k): q {": 0,
    }
    return [(cut(HEAD + text), place) for text, place in texts.items()]


class TheExample(unittest.TestCase):

    def test_example(self):
        head = "once k ; plain q ; given f ( k , k ) : q ; "
        two = tuple((head + "def g ( x : k ) :").split(" "))
        self.assertEqual(none_paper((*two, "q"))[0], 0)
        paper = none_paper((*two, "q"))
        found = [paper[1], paper[2], is_none_paper((*two, "q"), paper), is_none_paper((*two, "k"), paper)]
        wanted = [{"k": ((("k", 1),),), "num": ((),), "q": ((("k", 2),), (("q", 1),)), "truth": ((),)}, ((("k", 2),), (("q", 1),)), True, False]
        self.assertEqual(found, wanted)
        three = tuple((head + "choice v { no , ok : k } given h ( ) : v ; given done ( k ) : q ; def u ( ) : q { match v h ( ) {").split(" "))
        self.assertEqual(none_paper(three)[0], 0)
        self.assertIs(is_none_paper(three, none_paper(three)), True)


class Papers(unittest.TestCase):

    def test_papers_of_dead_rows(self):
        for row, place in dead_rows():
            self.assertIs(can_be_read(row), True, show(row))
            paper = none_paper(row)
            self.assertIsInstance(paper, tuple)
            self.assertEqual([len(paper), paper[0]], [3, place], show(row))
            at = len(row) - 1 - row[::-1].index("def")
            ahead = read_program(row[:at])
            kind = row[row.index(")", at) + 2]
            self.assertEqual([paper[1], paper[2]], [least_stocks(ahead), block_stocks(ahead, kind)])
            self.assertEqual(list(paper[1]), sorted(paper[1]))
            self.assertIs(is_none_paper(row, paper), True)

    def test_none_of_beginnings(self):
        texts = ["", "def", "def g ( x : k", "def g(x: k):", "def g(x: k): num", "def g(x: k, y: k): q { let", "def g(x: k, y: k): q { give f(x, y); } def e(): num { repeat 2 {", "def g(x: k): num { match v h() { no { } ok s { give"]
        for text in texts:
            row = cut(HEAD + text)
            self.assertIs(none_paper(row), None, text)
            for paper in [None, none_paper(cut(HEAD + "def g(): q")), (0, {}, ())]:
                self.assertIs(is_none_paper(row, paper), False, text)

    def test_just_of_what_is_no_beginning(self):
        papers = 0
        for seed in range(60):
            for row in walk(seed, head_by_chance(seed), 15):
                try:
                    paper = none_paper(row)
                except TooMany:
                    break
                self.assertEqual(paper is None, is_beginning(row), show(row))
                if paper is not None:
                    papers += 1
                    self.assertIs(is_none_paper(row, paper), True, show(row))
                    tells = [is_met(row, one) for one in demands(row)]
                    self.assertEqual(paper[0], tells.index(False))
        self.assertGreater(papers, 200)

    def test_papers_are_closed_by_a_slow_judge(self):
        """What a paper tells is closed as the document says, asked sum by sum and step by step."""
        for row, _ in dead_rows():
            place, ex, lot = none_paper(row)
            at = len(row) - 1 - row[::-1].index("def")
            ahead = read_program(row[:at])
            once = once_of(ahead)
            for made, kinds in rules(ahead):
                self.assertTrue(all(any(above(one, low) for low in ex[made]) for one in sums(once, [ex[kind] for kind in kinds])))
            for one in [*ex[row[row.index(")", at) + 2]], *steps(ahead, ex, lot)]:
                self.assertTrue(any(above(one, low) for low in lot), show(row))
            for alternative in demands(row)[place]:
                self.assertFalse(all(any(above(one, low) for low in lot) for one in alternative))
            self.assertEqual(least(lot), lot)


class Judging(unittest.TestCase):

    def setUp(self):
        self.row = cut(HEAD + "def g(x: k): q {")
        self.place, self.ex, self.lot = none_paper(self.row)
        self.assertEqual(self.place, 0)

    def judge(self, *paper):
        return is_none_paper(self.row, tuple(paper))

    def test_any_value(self):
        for thing in odd_values():
            self.assertIs(is_none_paper(self.row, thing), False)
            self.assertIs(self.judge(thing, self.ex, self.lot), isinstance(thing, int) and not isinstance(thing, bool) and thing == 0)
            self.assertIs(self.judge(0, thing, self.lot), False)
            # The lot () is closed just where nothing makes the kind.
            self.assertIs(self.judge(0, self.ex, thing), False)
            self.assertIs(is_none_paper((), thing), False)
            self.assertIs(is_none_paper(cut("def g():"), thing), False)

    def test_parts_left_out_and_more(self):
        place, ex, lot = self.place, self.ex, self.lot
        for paper in [(), (place,), (place, ex), (ex, lot), (place, lot, ex), (place, ex, lot, lot), (place, ex, lot, None), [place, ex, lot], {0: place, 1: ex, 2: lot}]:
            self.assertIs(is_none_paper(self.row, paper), False)

    def test_the_place(self):
        for place in [False, True, -1, 1, 2, 10 ** 39, -(10 ** 39), None, "0", (0,), [0]]:
            self.assertIs(self.judge(place, self.ex, self.lot), False)
        row = cut(HEAD + "def g(x: k, y: k): q { if true { } else { repeat 2 { give")
        place, ex, lot = none_paper(row)
        self.assertEqual([place, [is_none_paper(row, (at, ex, lot)) for at in range(-3, 4)]], [2, [at == 2 for at in range(-3, 4)]])

    def test_the_keys_in_any_order(self):
        keys = list(self.ex)
        for seed in range(5):
            random.Random(seed).shuffle(keys)
            self.assertIs(self.judge(0, {key: self.ex[key] for key in keys}, self.lot), True)

    def test_keys_left_out_and_more(self):
        for key in self.ex:
            self.assertIs(self.judge(0, {other: self.ex[other] for other in self.ex if other != key}, self.lot), False)
            for put in [(), (()), [], None, list(self.ex[key]), (self.ex[key],), self.ex[key] * 2]:
                if put != self.ex[key]:
                    self.assertIs(self.judge(0, {**self.ex, key: put}, self.lot), False)
        for key in ["more", "g", "f", "no", 0, None, ("k",)]:
            self.assertIs(self.judge(0, {**self.ex, key: ((),)}, self.lot), False)

    def test_the_lot(self):
        lot = self.lot
        self.assertGreater(len(lot), 1)
        for put in [lot[::-1], list(lot), lot[:1], lot[1:], (), lot + lot, ((("k", 2),),), tuple(list(one) for one in lot), (*lot, (("v", 9),)), ((),), ((("k", 1),), (("q", 1),))]:
            self.assertIs(self.judge(0, self.ex, put), False, put)

    def test_lists_and_truths_within(self):
        self.assertIs(self.judge(0, self.ex, tuple(tuple(list(pair) for pair in one) for one in self.lot)), False)
        self.assertIs(self.judge(0, self.ex, tuple(tuple((kind, count == 1 or count) for kind, count in one) for one in self.lot)), False)
        self.assertIs(self.judge(0, {**self.ex, "k": ((("k", True),),)}, self.lot), False)
        self.assertIs(self.judge(0, {**self.ex, "k": [(("k", 1),)]}, self.lot), False)

    def test_greater_closed_tables(self):
        """A table or lot that is closed, but tells of less than is needed, shows as much, as long as the demand is not met."""
        row = cut("once k; once l; plain q; given f(k, l): q; def g(x: l): q {")
        place, ex, lot = none_paper(row)
        self.assertEqual(lot, ((("k", 1), ("l", 1)), (("q", 1),)))
        lower = {**ex, "q": ((("k", 1),), (("q", 1),))}
        self.assertIs(is_none_paper(row, (place, lower, ((("k", 1),), (("q", 1),)))), True)
        self.assertIs(is_none_paper(row, (place, ex, ((("k", 1),), (("q", 1),)))), True)
        self.assertIs(is_none_paper(row, (place, lower, lot)), False)
        # A lot that this row meets shows nothing, though it is closed.
        for low in [((("k", 1),), (("l", 1),), (("q", 1),)), ((),), ((("l", 1),), (("q", 1),))]:
            self.assertIs(is_none_paper(row, (place, ex, low)), False, low)
        self.assertIs(is_none_paper(row, (place, {kind: ((),) for kind in ex}, ((),))), False)

    def test_another_table_makes_another_demand(self):
        row = cut("once k; once l; plain q; given f(k, l): q; def g(x: k): q { let u: q =")
        place, ex, lot = none_paper(row)
        self.assertEqual([place, demands(row)], [0, ((),)])
        self.assertIs(is_none_paper(row, (place, ex, lot)), True)
        # With this one q can be made of k alone: then there is a way, though it is not a real one.
        lower = {**ex, "q": ((("k", 1),), (("q", 1),))}
        self.assertIs(is_none_paper(row, (place, lower, ((("k", 1),), (("q", 1),)))), False)

    def test_told_tables_changed_by_the_caller(self):
        row = cut(HEAD + "def g(x: k): q {")
        first = none_paper(row)
        kept = dict(first[1])
        first[1]["k"] = ()
        first[1].pop("q")
        self.assertEqual(none_paper(row)[1], kept)
        self.assertIs(is_none_paper(row, first), False)
        second = none_paper(row)
        self.assertIs(is_none_paper(row, second), True)
        self.assertEqual(second[1], kept)

    def test_of_another_row(self):
        paper = none_paper(self.row)
        self.assertIs(is_none_paper(cut(HEAD + "def g(): q"), paper), True)
        self.assertIs(is_none_paper(cut(HEAD + "def g(x: k, y: k): q"), paper), False)
        self.assertIs(is_none_paper(cut(HEAD + "plain more; def g(x: k): q"), paper), False)
        self.assertIs(is_none_paper(cut("once k; plain q; def g(x: k): q"), paper), False)


class TooManyMembers(unittest.TestCase):

    def test_where_tables_are_needed(self):
        for library in (library_with(61), library_with_blocks(61)):
            with self.assertRaises(TooMany) as caught:
                none_paper((*row_of(library), *"def g ( s : k ) : q { let t : q =".split()))
            self.assertEqual(caught.exception.most, 60)

    def test_where_none_are(self):
        for library in (library_with(61), library_with_blocks(61)):
            for text in ["", "plain m9 ;", "def g", "def g ( s : q ) :", "def g ( ) : num { give 1 ; }"]:
                self.assertIs(none_paper((*row_of(library), *text.split())), None)
                self.assertIs(is_none_paper((*row_of(library), *text.split()), (0, {}, ())), False)

    def test_a_judge_needs_no_tables_of_its_own(self):
        library = library_with(61)
        row = (*row_of(library), *"def g ( s : k ) : q {".split())
        free = {kind: ((),) for kind in [*least_stocks(library[:7]), *[declared[1] for declared in library if declared[0] == "plain"]]}
        self.assertIs(is_none_paper(row, (0, free, ((),))), False)
        self.assertIs(is_none_paper(row, (0, None, ())), False)


if __name__ == "__main__":
    unittest.main()
