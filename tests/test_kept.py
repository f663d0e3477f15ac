"""[37], [38] and [10]: rows under edits, and words in the place of others."""

import random
import unittest

from endsahead.ends import ending, is_beginning
from endsahead.errors import NoEnding, NoTree, Nothing, TooMany, Wrong
from endsahead.kept import Kept
from endsahead.lacks import lacks
from endsahead.nopapers import is_none_paper, none_paper
from endsahead.offers import first_dead, offers
from endsahead.reader import read_program
from endsahead.right import is_right, is_right_row
from endsahead.shower import row_of
from endsahead.stands import first_unread
from endsahead.words import KEYWORDS, SIGNS, cut, is_row, show, sort_of_word
from authors import right_program
from libraries import library_with
from rows import HEAD, PARAMETERS, rights
from samples import odd_values
from tight import head_by_chance

SMALL = cut("once k; plain q; given f(k, k): q; def g(x: k, y: k): q { if true { let z: k = x; give f(z, y); } give f(")


class TheExample(unittest.TestCase):

    def test_example(self):
        head = ("once", "k", ";", "given", "f", "(", "k", ")", ":", "num", ";")
        kept = Kept((*head, "def", "g", "(", "x", ":", "k", ")", ":", "num", "{", "give", "f", "(", "x", ")"))
        found = [kept.dead(), kept.offers(24), kept.write("+"), kept.write("x"), kept.row()[-3:]]
        self.assertEqual(found, [None, (("(", "x"), False, False), True, False, ("x", ")", "+")])
        found = [is_right(kept.program() or ()), kept.finish()[-1], is_right(kept.program()), kept.program()[2][1], kept.undo(), kept.row()[-1]]
        self.assertEqual(found, [True, "}", True, "g", None, "+"])
        found = [kept.put(24, ("f",)), kept.dead(), kept.undo(), kept.may_stand(14, "y"), kept.instead(13)]
        self.assertEqual(found, [None, 24, None, False, (("(",), False, False)])
        found = [kept.take(0, 11), kept.dead(), kept.undo(), kept.undo(), kept.row()[-1], kept == kept.twin()]
        self.assertEqual(found, [None, 5, None, None, ")", True])
        with self.assertRaises(Nothing):
            kept.undo()


def told(ask):
    """Return what a call tells, with errors as tuples."""
    try:
        return ("value", ask())
    except (NoTree, NoEnding, TooMany) as error:
        return (type(error).__name__, getattr(error, "index", None))


def wanted_of(row):
    """Return the dict of what is to be told of a row, by the functions of the other points."""
    unread = first_unread(row)

    def of_read(ask):
        return told(lambda: ask(row)) if unread is None else ("NoTree", unread)

    program = None
    if is_right_row(row):
        program = read_program(row)
    return {"row": ("value", row), "dead": told(lambda: first_dead(row)), "program": ("value", program), "lacks": of_read(lacks), "paper": of_read(none_paper)}


def told_of(kept):
    """Return the dict of what a Kept tells of its row."""
    return {"row": told(kept.row), "dead": told(kept.dead), "program": told(kept.program), "lacks": told(kept.lacks), "paper": told(kept.paper)}


class Edits(unittest.TestCase):

    def test_a_new_one(self):
        for row in [(), ("a",), SMALL, rights()[0]]:
            kept = Kept(row)
            self.assertEqual(kept.row(), row)
            with self.assertRaises(Nothing):
                kept.undo()
            self.assertEqual(kept.row(), row)

    def test_put(self):
        kept = Kept(("a", "b"))
        self.assertIs(kept.put(1, ("let", "0")), None)
        self.assertEqual(kept.row(), ("a", "let", "0", "b"))
        kept.put(0, ("{",))
        kept.put(5, ("}",))
        self.assertEqual(kept.row(), ("{", "a", "let", "0", "b", "}"))
        for row in [("{", "a", "let", "0", "b"), ("a", "let", "0", "b"), ("a", "b")]:
            self.assertIs(kept.undo(), None)
            self.assertEqual(kept.row(), row)
        with self.assertRaises(Nothing):
            kept.undo()

    def test_take(self):
        kept = Kept(("a", "b", "c", "d"))
        self.assertIs(kept.take(1, 2), None)
        self.assertEqual(kept.row(), ("a", "d"))
        kept.take(0, 2)
        self.assertEqual(kept.row(), ())
        kept.undo()
        kept.undo()
        self.assertEqual(kept.row(), ("a", "b", "c", "d"))

    def test_write(self):
        kept = Kept(())
        for word in "def f ( ) : num {".split():
            self.assertIs(kept.write(word), True)
        for word in ["}", "true", "f", "0", "plain", ";"]:
            self.assertIs(kept.write(word), False)
            self.assertEqual(kept.row(), tuple("def f ( ) : num {".split()))
        kept.undo()
        self.assertEqual(kept.row(), tuple("def f ( ) : num".split()))
        kept = Kept(("}",))
        self.assertEqual([kept.write("}"), kept.write("plain"), kept.row()], [False, False, ("}",)])
        kept = Kept(cut("once k; plain q; def g(x: k):"))
        self.assertEqual([kept.write("q"), kept.write("k"), kept.row()[-1]], [False, True, "k"])

    def test_finish(self):
        kept = Kept(SMALL)
        words = kept.finish()
        self.assertTrue(is_row(words))
        self.assertEqual([words, kept.row()], [ending(SMALL), (*SMALL, *words)])
        self.assertTrue(is_right_row(kept.row()))
        self.assertEqual([kept.finish(), kept.undo(), kept.row()], [(), None, SMALL])
        for row in [("a",), cut("once k; def f(): k {")]:
            kept = Kept(row)
            with self.assertRaises(NoEnding):
                kept.finish()
            self.assertEqual(kept.row(), row)
            with self.assertRaises(Nothing):
                kept.undo()

    def test_calls_that_change_nothing_are_not_led_back(self):
        kept = Kept(("plain",))
        kept.put(1, ("a",))
        kept.put(1, ())
        kept.take(0, 0)
        kept.take(2, 0)
        kept.write("b")
        for ask in (lambda: kept.put(3, ()), lambda: kept.take(1, 2), lambda: kept.write("1x")):
            with self.assertRaises(Wrong):
                ask()
        self.assertEqual(kept.row(), ("plain", "a"))
        kept.undo()
        self.assertEqual(kept.row(), ("plain",))
        kept = Kept(())
        kept.finish()
        with self.assertRaises(Nothing):
            kept.undo()

    def test_undo_behind_undo_and_edits(self):
        kept = Kept(())
        kept.put(0, ("a",))
        kept.put(1, ("b",))
        kept.undo()
        kept.put(1, ("c",))
        kept.undo()
        self.assertEqual(kept.row(), ("a",))
        kept.undo()
        self.assertEqual(kept.row(), ())
        with self.assertRaises(Nothing):
            kept.undo()
        kept.put(0, ("d",))
        self.assertEqual(kept.row(), ("d",))

    def test_it_copies_what_it_is_given(self):
        words = ["a", "b"]
        row = tuple(words)
        kept = Kept(row)
        kept.put(0, ("c",))
        self.assertEqual([row, kept.row()], [("a", "b"), ("c", "a", "b")])


class Twins(unittest.TestCase):

    def test_twins_go_their_own_ways(self):
        kept = Kept(("plain",))
        kept.put(1, ("a",))
        twin = kept.twin()
        self.assertIsInstance(twin, Kept)
        self.assertTrue(twin is not kept and twin == kept)
        twin.put(2, (";",))
        self.assertEqual([kept.row(), twin.row(), kept == twin, kept != twin], [("plain", "a"), ("plain", "a", ";"), False, True])
        kept.undo()
        self.assertEqual([kept.row(), twin.row()], [("plain",), ("plain", "a", ";")])
        twin.undo()
        twin.undo()
        self.assertEqual([kept == twin, twin.row()], [True, ("plain",)])
        for one in (kept, twin):
            with self.assertRaises(Nothing):
                one.undo()

    def test_equal(self):
        one, other = Kept(("a",)), Kept(())
        other.put(0, ("a", "b"))
        other.take(1, 1)
        self.assertIs(one == other, True)
        self.assertIs(one != other, False)
        self.assertIs(one == Kept(("b",)), False)
        self.assertIs(one != Kept(("b",)), True)
        for thing in [*odd_values(), ("a",), ["a"], "a"]:
            self.assertIs(one == thing, False)
            self.assertIs(one != thing, True)
            self.assertIs(thing == one, False)


class Telling(unittest.TestCase):

    def test_what_is_told(self):
        for text in ["", "let", "let u : k = x ;", "if b {", "give f ( x , y ) ; }", "give f ( x , y ) ; } }", "let u : num = ask ( x , 1 ) ; let t : num = ask ( y , 1 ) ; repeat 2 { let s : k", "let let", "}"]:
            row = cut(HEAD + PARAMETERS + text)
            self.assertEqual(told_of(Kept(row)), wanted_of(row), text)

    def test_program(self):
        row = rights()[0]
        self.assertEqual(Kept(row).program(), read_program(row))
        self.assertEqual(Kept(()).program(), ())
        for one in [row[:-1], (*row, "}"), cut("once a; once a;"), cut("def f(): num { }"), cut("once k; given b(k): num; def f(x: k): num { give b(x) + b(x); }")]:
            self.assertIs(Kept(one).program(), None)

    def test_what_cannot_be_read_has_no_lacks_and_no_paper(self):
        for text, index in [("a", 0), ("plain a ; b", 3), ("def f ( ) : num { give true ;", 8)]:
            kept = Kept(tuple(text.split()))
            for ask in (kept.lacks, kept.paper):
                with self.assertRaises(NoTree) as caught:
                    ask()
                self.assertEqual(caught.exception.index, index)
        kept = Kept(cut("once k; def f(): k {"))
        self.assertEqual([kept.lacks(), kept.dead(), kept.paper()[0], is_none_paper(kept.row(), kept.paper())], [((("k", 1),),), 8, 0, True])

    def test_offers(self):
        row = rights()[2]
        kept = Kept(row)
        for index in range(0, len(row) + 1, 11):
            self.assertEqual(kept.offers(index), offers(row[:index]))
        kept = Kept(cut("once k; def f(): k { let"))
        self.assertEqual(kept.offers(8), offers(cut("once k; def f():")))
        for index in (9, 10, 11):
            with self.assertRaises(NoEnding):
                kept.offers(index)

    def test_declarations_that_change(self):
        kept = Kept(cut("once k; plain q; given g1(q): k; def g(x: k): q {"))
        tells = []
        for edit in [lambda: None, lambda: kept.put(6, cut("given f(k): q;")), lambda: kept.put(9, ("k", ",")), lambda: kept.take(0, 1), lambda: kept.put(0, ("plain",)), kept.undo, kept.undo, kept.undo, kept.undo]:
            edit()
            self.assertEqual(told_of(kept), wanted_of(kept.row()), show(kept.row()))
            tells.append(kept.dead())
        self.assertEqual([tells[0], tells[1], tells[2], tells[4], tells[-1]], [22, None, 32, None, 22])

    def test_told_values_changed_by_the_caller(self):
        kept = Kept(cut("once k; def f(): k {"))
        first = kept.paper()
        wanted = dict(first[1])
        first[1].clear()
        self.assertEqual(kept.paper()[1], wanted)
        self.assertTrue(kept.paper()[1] is not kept.paper()[1])
        self.assertEqual(kept.twin().paper()[1], wanted)
        self.assertEqual([kept.dead(), kept.lacks()], [8, ((("k", 1),),)])

    def test_behind_any_row_of_edits(self):
        """[10]: what is told is what comes from nothing; undo leads back all the way."""
        asked = 0
        for seed in range(14):
            chance = random.Random(seed)
            row = row_of(right_program(seed, 3, 3, 1, 1))
            kept = Kept(row[:chance.randint(0, len(row))])
            pool = [*sorted(set(row)), *KEYWORDS, *SIGNS, "new", "7"]
            now, past = kept.row(), []
            twins = []
            for at in range(30):
                new = self.edit(chance, kept, now, past, pool)
                if new is None:
                    self.assertEqual(kept.row(), past[-1] if past else now)
                    now = past.pop() if past else now
                elif new != now:
                    past.append(now)
                    now = new
                self.assertEqual(kept.row(), now)
                if at % 3 == 0:
                    self.assertEqual(told_of(kept), wanted_of(now), show(now))
                    index = chance.randint(0, len(now))
                    wanted = told(lambda: offers(now[:index])) if is_beginning(now[:index]) else ("NoEnding", None)
                    self.assertEqual(told(lambda: kept.offers(index)), wanted)
                    asked += 1
                if at % 10 == 0:
                    twins.append((kept.twin(), now, list(past)))
            twins.append((kept, now, past))
            for one, told_row, ahead in twins:
                self.assertEqual(one.row(), told_row)
                for back in ahead[::-1]:
                    one.undo()
                    self.assertEqual(one.row(), back)
                with self.assertRaises(Nothing):
                    one.undo()
        self.assertGreater(asked, 100)

    def edit(self, chance, kept, row, past, pool):
        """Edit by chance; return the row that it has to be now, None if it was led back."""
        word = chance.choice(("put", "put", "take", "write", "write", "finish", "undo", "wrong"))
        index = chance.randint(0, len(row))
        if word == "put":
            words = tuple(chance.choice(pool) for _ in range(chance.choice((0, 1, 1, 3))))
            self.assertIs(kept.put(index, words), None)
            return (*row[:index], *words, *row[index:])
        if word == "take":
            many = min(len(row) - index, chance.choice((0, 1, 2, 9)))
            self.assertIs(kept.take(index, many), None)
            return (*row[:index], *row[index + many:])
        if word == "write":
            one = chance.choice(pool)
            fits = is_beginning((*row, one))
            self.assertIs(kept.write(one), fits)
            return (*row, one) if fits else row
        if word == "finish":
            if not is_beginning(row):
                self.assertRaises(NoEnding, kept.finish)
                return row
            return (*row, *kept.finish())
        if word == "wrong":
            self.assertRaises(Wrong, kept.put, len(row) + 1, ())
            self.assertRaises(Wrong, kept.take, 0, len(row) + 1)
            return row
        if not past:
            self.assertRaises(Nothing, kept.undo)
            return row
        kept.undo()
        return None


class Instead(unittest.TestCase):

    def ask(self, row, index):
        """Hold what may stand at an index against each word that there is."""
        kept = Kept(row)
        found = kept.instead(index)
        names = {word for word in row if sort_of_word(word) == "name"}

        def may(word):
            return is_beginning((*row[:index], word, *row[index + 1:]))

        self.assertEqual(found[0], tuple(sorted(word for word in {*KEYWORDS, *SIGNS, *names} if may(word))), (show(row), index))
        for new in ("unheard", "q9z"):
            self.assertEqual([found[1], kept.may_stand(index, new)], [may(new)] * 2)
        for number in ("0", "999999999"):
            self.assertEqual([found[2], kept.may_stand(index, number)], [may(number)] * 2)
        for word in random.Random(index).sample([*KEYWORDS, *SIGNS, *sorted(names)], 6):
            self.assertIs(kept.may_stand(index, word), word in found[0])
        self.assertEqual([kept.row(), len(found)], [row, 3])
        return found

    def test_at_all_places(self):
        row = cut("once k; plain q; given f(k, q): num; def g(x: k, y: q, n: num): num { if n < 2 { give f(x, y); } give n + 1; }")
        for index in range(len(row)):
            found = self.ask(row, index)
            if sort_of_word(row[index]) != "number":
                self.assertIn(row[index], found[0])
            else:
                self.assertIs(found[2], True)

    def test_where_more_of_the_same_follows(self):
        row = cut("once k; plain p; record r { a: k, b: num, c: p } choice v { m, n: k, o } given f(k, num, p): v; def g(x: r, y: p): num { open r { d, e, h } = x; match v f(d, e, y) { m { } n u { let i: k = u; } o { } } give e; }")
        begin = row.index("open")
        for index in sorted({*range(6, len(row), 2), *range(begin, begin + 9)}):
            self.assertIn(row[index], self.ask(row, index)[0], index)
        self.ask(row[:row.index("e", 60) + 1], 60)

    def test_of_rows_that_are_none(self):
        row = cut("once k; plain q; given f(k, q): num; def g(x: k, y: q): num { give f(x, x); }")
        for index in range(0, len(row), 2):
            self.ask(row, index)
        self.assertEqual(Kept(row).instead(len(row) - 4), (("y",), False, False))
        self.assertEqual(Kept(("a", "b")).instead(1), ((), False, False))
        self.assertEqual(Kept(("a",)).instead(0)[0], ("choice", "def", "given", "once", "plain", "record"))

    def test_the_name_at_the_index_is_among_the_words(self):
        row = cut("plain lonely; def g(): num { let only: num = 1;")
        self.assertEqual(Kept(row).instead(1), (("lonely",), True, False))
        self.assertEqual(Kept(row).instead(row.index("only")), (("only",), True, False))

    def test_by_chance(self):
        for seed in range(12):
            chance = random.Random(seed)
            row = row_of(right_program(seed, 4, 3, 1, 1))
            for index in chance.choices(range(len(row)), k=3) if row else []:
                self.ask(row, index)
            head = head_by_chance(seed)
            self.ask(head, chance.randrange(len(head)))


class Arguments(unittest.TestCase):

    def raises_wrong(self, place, ask):
        with self.assertRaises(Wrong) as caught:
            ask()
        self.assertEqual(caught.exception.place, place)

    def others(self, *fitting):
        """Return odd values that are none of what fits by one of these functions."""
        return [thing for thing in [*odd_values(), Kept(()), Kept(("a",))] if not any(fits(thing) for fits in fitting)]

    def is_word(self, thing):
        return sort_of_word(thing) is not None

    def test_of_rows(self):
        for thing in self.others(is_row):
            self.raises_wrong(0, lambda: Kept(thing))
        for thing in [("a", "B"), ["a"], ("a", None), ("a", ("b",)), "a", (1,), ("01",), ("",)]:
            self.raises_wrong(0, lambda: Kept(thing))

    def test_of_all_methods(self):
        kept = Kept(("plain", "a"))
        kept.put(2, (";",))
        row = kept.row()

        def is_small(most):
            return lambda thing: isinstance(thing, int) and not isinstance(thing, bool) and 0 <= thing <= most

        for thing in self.others(is_small(3)):
            for ask in (lambda: kept.put(thing, ("a",)), lambda: kept.put(thing, None), lambda: kept.take(thing, 0), lambda: kept.take(thing, thing), lambda: kept.offers(thing)):
                self.raises_wrong(0, ask)
            self.raises_wrong(1, lambda: kept.take(0, thing))
        for thing in self.others(is_small(2)):
            for ask in (lambda: kept.may_stand(thing, "a"), lambda: kept.may_stand(thing, None), lambda: kept.instead(thing)):
                self.raises_wrong(0, ask)
        for thing in self.others(is_row):
            self.raises_wrong(1, lambda: kept.put(0, thing))
        for thing in self.others(self.is_word):
            self.raises_wrong(0, lambda: kept.write(thing))
            self.raises_wrong(1, lambda: kept.may_stand(0, thing))
        self.assertEqual(kept.row(), row)
        kept.undo()
        self.assertEqual(kept.row(), ("plain", "a"))
        with self.assertRaises(Nothing):
            kept.undo()

    def test_the_edges(self):
        kept = Kept(("a", "b"))
        kept.put(2, ())
        kept.take(2, 0)
        kept.offers(0)
        for place, ask in [(0, lambda: kept.put(3, ())), (0, lambda: kept.put(-1, ())), (0, lambda: kept.take(3, 0)), (1, lambda: kept.take(2, 1)), (1, lambda: kept.take(1, 2)), (1, lambda: kept.take(0, -1)), (0, lambda: kept.offers(3)), (0, lambda: kept.offers(-1))]:
            self.raises_wrong(place, ask)
        for index in (-1, 2):
            self.raises_wrong(0, lambda: kept.instead(index))
            self.raises_wrong(0, lambda: kept.may_stand(index, "a"))
        for ask in (lambda: Kept(()).instead(0), lambda: Kept(()).may_stand(0, "a")):
            self.raises_wrong(0, ask)

    def test_wrong_comes_ahead_of_other_errors(self):
        kept = Kept(("}",))
        self.raises_wrong(0, lambda: kept.offers(2))
        with self.assertRaises(NoEnding):
            kept.offers(1)
        self.raises_wrong(0, lambda: Kept((*row_of(library_with(61)), *"def g ( s : q ) : q".split())).write("Let"))

    def test_too_many_members_change_nothing(self):
        row = (*row_of(library_with(61)), *"def g ( s : q ) : q".split())
        kept = Kept(row)
        for ask in (lambda: kept.write("{"), kept.finish, kept.dead, kept.lacks, kept.paper, lambda: kept.offers(len(row)), lambda: kept.may_stand(len(row) - 1, "k")):
            with self.assertRaises(TooMany):
                ask()
        self.assertEqual(kept.row(), row)
        with self.assertRaises(Nothing):
            kept.undo()
        kept.take(len(row) - 1, 1)
        self.assertEqual([kept.dead(), kept.lacks(), kept.paper()], [None, ((),), None])


if __name__ == "__main__":
    unittest.main()
