"""[1] and [5] to [10]: what the document promises over the whole program, each promise by all that belongs to it."""

import random
import unittest

from endsahead.blocks import block_stocks, is_plan, plan_for, shows_no_plan
from endsahead.demands import demands, is_met
from endsahead.desk import Desk
from endsahead.ends import ending, is_beginning
from endsahead.errors import NoEnding, NoTree, TooLong, TooMany
from endsahead.kept import Kept
from endsahead.lacks import is_lack, lacks
from endsahead.library import kinds_in, once_kinds
from endsahead.making import is_shape, least_stocks, shape_for, shows_none, spent_by
from endsahead.nopapers import is_none_paper, none_paper
from endsahead.offers import first_dead, is_offered, offers
from endsahead.reader import needless, read_program
from endsahead.right import broken, is_right_row
from endsahead.running import handed_over, run
from endsahead.shower import row_of
from endsahead.stands import can_be_read
from endsahead.stocks import is_above
from endsahead.values import is_of_kind
from endsahead.words import KEYWORDS, SIGNS, cut, fresh_name, show, sort_of_word
from endsahead.writing import names_stock, written_plan
from authors import right_program
from rows import rights
from runner import Labels, world_for
from samples import chance_program
from tight import head_by_chance, small_library, tight_program, walk


def stock_by_chance(chance, declarations):
    kinds = kinds_in(declarations)
    once = once_kinds(declarations)
    chosen = sorted(chance.sample(kinds, min(len(kinds), chance.randint(0, 3))))
    return tuple((kind, chance.randint(1, 3) if kind in once else 1) for kind in chosen)


class WordByWord(unittest.TestCase):
    """[1]: a text is written at the desk; each word offered leads to a right program, and no other does."""

    def test_a_text_is_written(self):
        desk = Desk()
        text = "once seal; plain note; given stamp(seal, num): note; def f(s: seal, n: num): note { if n < 2 { give stamp(s, n"
        for word in cut(text):
            offered = desk.execute("offers")
            told = word in offered or (sort_of_word(word) == "name" and "NAME" in offered) or (sort_of_word(word) == "number" and "NUMBER" in offered)
            self.assertEqual([told, desk.execute("write " + word)], [True, ["1 of 1"]], word)
        for word in ["s", "stamp", "}", "true", "."]:
            self.assertNotIn(word, desk.execute("offers"))
            self.assertEqual(desk.execute("write " + word), ["0 of 1"])
        self.assertEqual([desk.execute("dead"), desk.execute("lacks")], [["none"], ["nothing"]])
        desk.execute("finish")
        self.assertEqual(desk.execute("right"), ["right"])

    def test_what_lacks_where_a_row_is_dead(self):
        desk = Desk()
        desk.execute("put 0 once seal; plain note; given stamp(seal, num): note; def f(n: num): note {")
        self.assertEqual([desk.execute("dead"), desk.execute("finish"), desk.execute("lacks")], [["24 note"], ["no ending"], ["note 1", "seal 1"]])
        self.assertEqual(desk.execute("offers 24"), ["num", "truth"])
        kept = desk.kept()
        self.assertIs(is_none_paper(kept.row(), kept.paper()), True)
        self.assertIs(is_lack(kept.row(), (("seal", 1),)), True)

    def test_runs_of_what_was_written(self):
        desk = Desk()
        desk.execute("write record r { sum: num, small: truth } def f(n: num): r { let m: num = n + n; give r { m, m < 9")
        desk.execute("finish")
        self.assertEqual([desk.execute("run f 4"), desk.execute("run f 5")], [["r{8, true}"], ["r{10, false}"]])


class Grammar(unittest.TestCase):
    """[5]"""

    def test_rows_of_programs_are_read_as_these(self):
        for seed in range(120):
            program = chance_program(seed)
            row = row_of(program)
            self.assertEqual(read_program(row), program)
            self.assertEqual([needless(row), row_of(read_program(row))], [(), row])

    def test_no_row_is_that_of_two(self):
        rows = {}
        for seed in range(300):
            program = chance_program(seed)
            self.assertEqual(rows.setdefault(row_of(program), program), program)


class Values(unittest.TestCase):
    """[6]"""

    def test_exactly_if(self):
        told = [0, 0]
        for seed in range(60):
            chance, library = random.Random(seed), small_library(seed)
            try:
                ex = least_stocks(library)
            except TooMany:
                continue
            for kind in ex:
                stock = stock_by_chance(chance, library)
                shape = shape_for(library, kind, stock)
                is_enough = any(is_above(stock, low) for low in ex[kind])
                told[is_enough] += 1
                self.assertEqual(shape is not None, is_enough)
                self.assertIs(shows_none(library, kind, stock, ex), not is_enough)
                if is_enough:
                    self.assertTrue(is_shape(library, kind, shape) and is_above(stock, spent_by(library, shape)))
        self.assertGreater(min(told), 60)


class Blocks(unittest.TestCase):
    """[7]"""

    def test_exactly_if(self):
        told = [0, 0]
        for seed in range(60):
            chance, library = random.Random(seed), small_library(seed)
            for kind in chance.sample(kinds_in(library), min(3, len(kinds_in(library)))):
                stock = stock_by_chance(chance, library)
                try:
                    lot, ex = block_stocks(library, kind), least_stocks(library)
                except TooMany:
                    continue
                plan = plan_for(library, kind, stock)
                is_enough = any(is_above(stock, low) for low in lot)
                told[is_enough] += 1
                self.assertEqual(plan is not None, is_enough)
                self.assertIs(shows_no_plan(library, kind, stock, ex, lot), not is_enough)
                if is_enough:
                    self.assertIs(is_plan(library, kind, stock, plan), True)
                    self.write(library, kind, stock, plan)
        self.assertGreater(min(told), 30)

    def write(self, library, kind, stock, plan):
        """Ask whether a plan is the block of a right function."""
        kinds = [name for name, count in stock for _ in range(count)]
        names = tuple((f"own{at}", told) for at, told in enumerate(kinds))
        self.assertEqual(names_stock(library, names), stock)
        block = written_plan(library, plan, names, [*row_of(library), "fun", *[name for name, _ in names]])
        self.assertIs(broken((*library, ("def", "fun", names, kind, block))), None)


class Beginnings(unittest.TestCase):
    """[8]"""

    def ask(self, row):
        """Ask all that is promised of one row; return whether it is a beginning."""
        alive = is_beginning(row)
        self.assertIs(alive, can_be_read(row) and all([is_met(row, one) for one in demands(row)]), show(row))
        self.assertIs(first_dead(row) is None, alive)
        if alive:
            self.assertIs(is_right_row((*row, *ending(row))), True, show(row))
        else:
            self.assertRaises(NoEnding, ending, row)
        if can_be_read(row):
            paper = none_paper(row)
            self.assertIs(paper is None, alive)
            self.assertIs(is_none_paper(row, paper), not alive)
            self.assertEqual(lacks(row) == ((),), alive)
        return alive

    def test_for_every_row(self):
        told = [0, 0]
        for seed in range(50):
            for row in walk(seed, head_by_chance(seed), 12)[::2]:
                try:
                    told[self.ask(row)] += 1
                except TooMany:
                    break
            chance = random.Random(seed)
            program = row_of(right_program(seed, 4, 4, 1, 2))
            at = chance.randint(0, len(program))
            try:
                told[self.ask((*program[:at], chance.choice([*program, *KEYWORDS, *SIGNS])))] += 1
                self.assertIs(self.ask(program[:at]), True)
            except TooMany:
                continue
        self.assertGreater(min(told), 60)

    def test_each_word_leads_on_or_has_a_paper(self):
        for seed in range(16):
            try:
                rows = walk(seed, head_by_chance(seed), 9, is_beginning)
                for row in rows[::4]:
                    words, new, number = offers(row)
                    for word in [*KEYWORDS, *SIGNS, *sorted({one for one in row if sort_of_word(one) == "name"}), fresh_name(row), "0"]:
                        longer = (*row, word)
                        offered = {"0": number, fresh_name(row): new}.get(word, word in words)
                        self.assertIs(is_offered(row, word), offered)
                        if offered:
                            self.assertIs(is_right_row((*longer, *ending(longer))), True)
                        elif can_be_read(longer):
                            self.assertIs(is_none_paper(longer, none_paper(longer)), True)
            except TooMany:
                continue

    def test_what_a_right_program_begins_with_is_a_beginning(self):
        """The other half of it: nothing that has an ending is told to have none."""
        for seed in range(100, 140):
            program = tight_program(seed)
            row = () if program is None else row_of(program)
            for many in range(row.index("def") if row else 0, len(row) + 1):
                self.assertIs(is_beginning(row[:many]), True, show(row[:many]))


class Runs(unittest.TestCase):
    """[9]"""

    def test_runs(self):
        ended = 0
        for seed in range(300, 420):
            program = right_program(seed, 6, 5, 3, 3)
            for declared in program:
                if declared[0] != "def":
                    continue
                labels = Labels(random.Random(seed), program)
                arguments = tuple(labels.value(kind) for _, kind in declared[2])
                world = world_for(labels, program, declared[1], arguments, 400)
                try:
                    value, log = run(program, declared[1], arguments, world, 400)
                except TooLong:
                    # Repeats of very many turns end, too, but not here.
                    continue
                self.assertIs(is_of_kind(program, declared[3], value), True)
                over = handed_over(program, log, value)
                self.assertEqual(len(set(over)), len(over))
                ended += 1
        self.assertGreater(ended, 120)

    def test_endings_run_too(self):
        for row in rights():
            for many in range(60, len(row), 25):
                program = read_program((*row[:many], *ending(row[:many])))
                for declared in program:
                    if declared[0] == "def":
                        labels = Labels(random.Random(many), program)
                        arguments = tuple(labels.value(kind) for _, kind in declared[2])
                        world = world_for(labels, program, declared[1], arguments, 400)
                        value, log = run(program, declared[1], arguments, world, 10 ** 6)
                        over = handed_over(program, log, value)
                        self.assertEqual(len(set(over)), len(over))


class KeptRows(unittest.TestCase):
    """[10]"""

    def test_told_as_from_nothing(self):
        for seed in range(10):
            chance = random.Random(seed)
            row = rights()[seed % 12]
            kept = Kept(())
            for _ in range(25):
                now = kept.row()
                index = chance.randint(0, len(now))
                word = chance.choice(("put", "take", "write", "undo", "finish"))
                try:
                    if word == "put":
                        at = chance.randint(0, len(row))
                        kept.put(index, row[at:at + chance.choice((1, 5, 40))])
                    elif word == "take":
                        kept.take(index, min(len(now) - index, chance.choice((1, 4))))
                    elif word == "write":
                        kept.write(chance.choice(row))
                    elif word == "undo":
                        kept.undo()
                    else:
                        kept.finish()
                except ValueError:
                    self.assertEqual(kept.row(), now)
                fresh = Kept(kept.row())
                self.assertEqual(kept, fresh)
                self.assertEqual([self.told(kept, name) for name in ("dead", "program", "lacks", "paper")], [self.told(fresh, name) for name in ("dead", "program", "lacks", "paper")])

    def told(self, kept, name):
        try:
            return getattr(kept, name)()
        except NoTree as error:
            return error.index


if __name__ == "__main__":
    unittest.main()
