"""[39]: a row that is led by lines."""

import random
import unittest

from endsahead.desk import Desk
from endsahead.ends import is_beginning
from endsahead.errors import NoCommand, NoEnding, NoTree, Nothing, TooMany, Wrong
from endsahead.kept import Kept
from endsahead.reader import read_program
from endsahead.right import broken, is_right_row
from endsahead.shower import row_of, show_program
from endsahead.words import cut, show
from libraries import library_with
from rows import HEAD, PARAMETERS, rights
from samples import odd_values


def desk_with(text):
    """Return a desk with the row of a text."""
    desk = Desk()
    desk.execute("put 0 " + text)
    return desk


class TheExample(unittest.TestCase):

    def test_example(self):
        desk = Desk()
        found = [desk.execute(line) for line in ["write def f ( n : num ) : num { let", "offers", "write n", "write m : num = n + ; give", "row"]]
        self.assertEqual(found, [["11 of 11"], ["NAME"], ["0 of 1"], ["6 of 8"], ["def f ( n : num ) : num { let m : num = n +"]])
        found = [desk.execute(line) for line in ["write 1 ; give m < 2", "dead", "undo", "write ; }", "right", "run f 41", "run f true", "offers 2"]]
        self.assertEqual(found, [["4 of 6"], ["none"], ["done"], ["0 of 2"], ["unread 20"], ["not right"], ["not right"], ["("]])
        found = [desk.execute(line) for line in ["write m ; }", "finish", "right", "run f 41", "take 0 1", "dead", "right", "show", "lacks"]]
        self.assertEqual(found, [["3 of 3"], [""], ["right"], ["42"], ["done"], ["0 f"], ["unread 0"], ["unread 0"], ["unread 0"]])


class Lines(unittest.TestCase):

    def test_row_put_and_take(self):
        desk = Desk()
        self.assertEqual(desk.execute("row"), [""])
        self.assertEqual([desk.execute("put 0 plain a;"), desk.execute("row"), desk.execute("put 3 once  b ;"), desk.execute("row")], [["done"], ["plain a ;"], ["done"], ["plain a ; once b ;"]])
        self.assertEqual([desk.execute("put 1"), desk.execute("put 6"), desk.execute("row")], [["done"], ["done"], ["plain a ; once b ;"]])
        self.assertEqual([desk.execute("take 1 2"), desk.execute("row"), desk.execute("take 4 0"), desk.execute("take 0 4"), desk.execute("row")], [["done"], ["plain once b ;"], ["done"], ["done"], [""]])
        self.assertEqual([desk.execute("undo"), desk.execute("row"), desk.execute("undo"), desk.execute("row"), desk.execute("undo"), desk.execute("undo"), desk.execute("undo"), desk.execute("row")], [["done"], ["plain once b ;"], ["done"], ["plain a ; once b ;"], ["done"], ["done"], ["nothing"], [""]])

    def test_write(self):
        desk = Desk()
        self.assertEqual([desk.execute("write"), desk.execute("write plain a;once"), desk.execute("write once b"), desk.execute("write b ; }"), desk.execute("row")], [["0 of 0"], ["4 of 4"], ["0 of 2"], ["2 of 3"], ["plain a ; once b ;"]])
        self.assertEqual([desk.execute("undo"), desk.execute("row"), desk.execute("undo"), desk.execute("row")], [["done"], ["plain a ; once b"], ["done"], ["plain a ; once"]])

    def test_finish_and_undo(self):
        desk = desk_with("once k; def f(x: k): k { give")
        words = desk.execute("finish")
        self.assertEqual(len(words), 1)
        self.assertTrue(is_right_row(cut("once k; def f(x: k): k { give " + words[0])))
        self.assertEqual([desk.execute("right"), desk.execute("finish"), desk.execute("undo"), desk.execute("row")], [["right"], [""], ["done"], ["once k ; def f ( x : k ) : k { give"]])
        desk = desk_with("once k; def f(): k {")
        self.assertEqual([desk.execute("finish"), desk.execute("undo"), desk.execute("undo"), desk.execute("finish")], [["no ending"], ["done"], ["nothing"], [""]])

    def test_dead(self):
        self.assertEqual([desk_with(text).execute("dead") for text in ["", "plain a;", "a", "once k; def f(): k { let", "plain a ; }"]], [["none"], ["none"], ["0 a"], ["8 k"], ["3 }"]])

    def test_offers(self):
        desk = desk_with(HEAD + PARAMETERS + "let u: num =")
        self.assertEqual(desk.execute("offers"), ["(", "ask", "book", "n", "page", "write", "NUMBER"])
        self.assertEqual([desk.execute("offers 0"), desk.execute("offers 2")], [["choice", "def", "given", "once", "plain", "record"], [";"]])
        self.assertEqual([desk.execute("offers 1"), desk.execute("offers 4")], [["NAME"], ["NAME"]])
        many = len(desk.kept().row())
        self.assertEqual(desk.execute(f"offers {many}"), desk.execute("offers"))
        desk = desk_with("once k; def f(): k {")
        self.assertEqual([desk.execute("offers"), desk.execute("offers 9"), desk.execute("offers 8")], [["no ending"], ["no ending"], ["num", "truth"]])

    def test_instead(self):
        desk = desk_with("plain a; def f(n: num): num { give n; }")
        self.assertEqual([desk.execute("instead 0"), desk.execute("instead 13")], [["once", "plain"], ["give"]])
        self.assertEqual(desk.execute("instead 14"), ["n", "NUMBER"])
        self.assertEqual(desk.execute("instead 1"), ["a", "NAME"])
        desk = desk_with("a b")
        self.assertEqual(desk.execute("instead 1"), [])

    def test_lacks(self):
        head = "once k; plain q; given f(k, k, k): q; "
        texts = {"": ["nothing"], "def g(): q {": ["k 3", "q 1"], "def g(x: k): q { give f ( x": ["k 2"], "def g(): num { repeat 2 { let u : k": ["no stock"], "def g(): num { open": ["no stock"], "let": [f"unread {len(cut(head))}"]}
        for text, wanted in texts.items():
            self.assertEqual(desk_with(head + text).execute("lacks"), wanted, text)
        both = desk_with("once k; plain q; given f(k, q): num; def g(): num { give f (")
        self.assertEqual(both.execute("lacks"), ["k 1 q 1"])

    def test_right(self):
        desk = desk_with("once k; given b(k): num; def f(x: k): num { give b(x) + b(x); }")
        self.assertEqual(desk.execute("right"), ["2 spent"])
        texts = {"": ["right"], "plain a; plain a;": ["1 name"], "plain a": ["unread 2"], "plain a; b": ["unread 3"], "def f(): q { give 1; }": ["0 unknown"], "def f(): num { }": ["0 give"], "def f(): num { give true; }": ["0 kind"], "def f(): num { give 1; }": ["right"]}
        for text, wanted in texts.items():
            self.assertEqual(desk_with(text).execute("right"), wanted, text)

    def test_show(self):
        text = "plain a; def f(n: num): num { if n < 1 { give 1; } give n; }"
        self.assertEqual(desk_with(text).execute("show"), ["plain a ;", "def f ( n : num ) : num {", "  if n < 1 {", "    give 1 ;", "  }", "  give n ;", "}"])
        self.assertEqual(Desk().execute("show"), [])
        self.assertEqual([desk_with("plain").execute("show"), desk_with("plain a; plain a;").execute("show")], [["unread 1"], ["plain a ;", "plain a ;"]])
        for row in rights():
            self.assertEqual(desk_with(show(row)).execute("show"), show_program(read_program(row)).split("\n"))

    def test_run(self):
        text = "once k; given b(): k; record r { a: num, t: truth } def f(n: num, t: truth): r { give r { n + 1, t and n < 3 }; } def e(): k { give b(); } def d(n: num): num { repeat n { } give n; } def c(x: k): num { give 1; } def z(): truth { give true; }"
        desk = desk_with(text)
        self.assertEqual(desk.execute("right"), ["right"])
        lines = {
            "run f 2 true": ["r{3, true}"], "run f 2 false": ["r{3, false}"], "run f 999999999 true": ["r{1000000000, false}"], "run f true 2": ["no function"], "run f 2": ["no function"], "run f 2 true true": ["no function"], "run f 2 1": ["no function"],
            "run e": ["no answer 0"], "run e 1": ["no function"], "run b": ["no function"], "run g": ["no function"], "run k": ["no function"], "run r 1 true": ["no function"], "run c 1": ["no function"], "run c": ["no function"], "run z": ["true"], "run z true": ["no function"],
            "run d 0": ["0"], "run d 998": ["998"], "run d 999": ["too long"], "run d 999999999": ["too long"], "run a 1": ["no function"], "run n": ["no function"],
        }
        for line, wanted in lines.items():
            self.assertEqual(desk.execute(line), wanted, line)
        self.assertEqual(desk.execute("row"), [show(cut(text))])

    def test_run_of_rows_that_are_not_right(self):
        for text in ["plain", "plain a; plain a;", "def f(): num {", "}"]:
            for line in ["run f", "run f 1", "run nothing true"]:
                self.assertEqual(desk_with(text).execute(line), ["not right"])
        self.assertEqual(Desk().execute("run f"), ["no function"])

    def test_more_blanks(self):
        desk = Desk()
        self.assertEqual([desk.execute("  put   0   plain   a  ;  "), desk.execute("   row "), desk.execute(" take  0   1  "), desk.execute("row   ")], [["done"], ["plain a ;"], ["done"], ["a ;"]])
        self.assertEqual([desk.execute(" undo "), desk.execute("  write   once "), desk.execute(" offers  3 "), desk.execute("  instead   0 "), desk.execute("  dead  ")], [["done"], ["1 of 1"], ["choice", "def", "given", "once", "plain", "record"], ["once", "plain"], ["none"]])
        desk = desk_with("def f(n: num): num { give n; }")
        self.assertEqual([desk.execute("  run   f    7 "), desk.execute(" show ")[0], desk.execute("  right "), desk.execute(" lacks "), desk.execute(" finish ")], [["7"], "def f ( n : num ) : num {", ["right"], ["nothing"], [""]])

    def test_what_is_returned_is_new(self):
        desk = desk_with("plain a;")
        for line in ["row", "offers", "show", "lacks", "dead", "right", "instead 0"]:
            first = desk.execute(line)
            kept = list(first)
            first.append("more")
            self.assertEqual(desk.execute(line), kept)


class NoCommands(unittest.TestCase):

    def no_command(self, desk, line):
        before = desk.kept()
        with self.assertRaises(NoCommand) as caught:
            desk.execute(line)
        self.assertIs(caught.exception.line, line)
        self.assertEqual(desk.kept(), before)

    def test_no_commands(self):
        lines = ["", " ", "rows", "Row", "row 1", "row row", "ROW", "put", "put a", "put a plain", "put -1 a", "put 4", "put 4 a", "put 03 a", "put 0a", "put 3;", "put 0 A", "put 0 01", "put 0 a?", "put 0 1234567890", "put 1.5 a", "put true a", "put 0;plain"]
        lines += ["take", "take 0", "take 0 4", "take 3 1", "take 4 0", "take 0 1 2", "take 00 1", "take 0 01", "take a 1", "take 0 b", "take 0 -1", "take 0,1", "write A", "write 01", "write a-b", "write plain b ; ?", "write " + "x" * 21, "finish 1", "finish now", "undo 1", "undo undo"]
        lines += ["dead 0", "dead dead", "offers 4", "offers 03", "offers a", "offers 0 1", "offers -1", "instead", "instead 3", "instead 03", "instead 0 1", "instead a", "instead -1", "lacks 1", "right now", "right 0", "show 1", "show all", "run", "run 1", "run F", "run def", "run f x", "run f 01", "run f -1"]
        lines += ["run f 1234567890", "run f True", "run f 1 2 x", "run f (1)", "run f 1,2", "run f(1)", "run true", "run give 1", "quit", "kept", "twin", "execute row", "row;", ";", "put 9 plain", "undo\n", "\nrow", "row\n", "put 0 plain\na ;", "write plain\n", "row\tput", "\trow", "put\t0", "instead 99999999999999999999", "offers 99999999999999999999"]
        for text in ["plain a ;", "def f"]:
            desk = desk_with(text)
            for line in lines:
                if text == "plain a ;" or line not in ("put 3;",) and not line.startswith(("offers", "instead", "take", "put")):
                    self.no_command(desk, line)
        desk = Desk()
        for line in ["instead 0", "take 0 1", "offers 1", "put 1 a"]:
            self.no_command(desk, line)

    def test_lines_with_line_feeds(self):
        desk = desk_with("plain a;")
        for line in ["row", "put 0 plain", "take 0 1", "write once", "finish", "undo", "dead", "offers", "instead 0", "lacks", "right", "show", "run f 1"]:
            for one in [line + "\n", "\n" + line, line.replace(" ", "\n", 1) + ("" if " " in line else "\n"), line.replace(" ", " \n ", 1) + "\n"]:
                self.no_command(desk, one)

    def test_what_is_no_string(self):
        desk = desk_with("plain a;")
        before = desk.kept()
        for thing in [*odd_values(), b"row", ("row",), ["row"], Desk(), Kept(())]:
            if isinstance(thing, str):
                self.assertRaises(NoCommand, desk.execute, thing)
            else:
                with self.assertRaises(Wrong) as caught:
                    desk.execute(thing)
                self.assertEqual(caught.exception.place, 0)
        self.assertEqual(desk.kept(), before)
        desk.execute("undo")
        self.assertEqual(desk.execute("undo"), ["nothing"])

    def test_the_past_stays(self):
        desk = desk_with("plain a;")
        for line in ["put 9 a", "take 0 9", "write ?", "undo 1"]:
            self.no_command(desk, line)
        self.assertEqual([desk.execute("undo"), desk.execute("row"), desk.execute("undo")], [["done"], [""], ["nothing"]])

    def test_too_many_members_change_nothing(self):
        text = show(row_of(library_with(61)))
        desk = desk_with(text)
        before = desk.kept()
        for line in ["write def g ( s : q ) : q { give", "write def g ( s : q ) : q"]:
            with self.assertRaises(TooMany):
                desk.execute(line)
            self.assertEqual(desk.kept(), before)
        self.assertEqual([desk.execute("undo"), desk.execute("row"), desk.execute("undo")], [["done"], [""], ["nothing"]])


class Twins(unittest.TestCase):

    def test_kept_is_a_twin(self):
        desk = desk_with("plain a;")
        kept = desk.kept()
        self.assertIsInstance(kept, Kept)
        self.assertEqual(kept, Kept(("plain", "a", ";")))
        kept.take(0, 1)
        self.assertEqual([desk.execute("row"), kept.row()], [["plain a ;"], ("a", ";")])
        kept.undo()
        kept.undo()
        self.assertEqual(kept.row(), ())
        self.assertRaises(Nothing, kept.undo)
        self.assertEqual([desk.execute("undo"), desk.execute("row")], [["done"], [""]])
        self.assertTrue(desk.kept() is not desk.kept())

    def test_twins_go_their_own_ways(self):
        desk = desk_with("plain a;")
        twin = desk.twin()
        self.assertIsInstance(twin, Desk)
        self.assertIs(desk == twin, True)
        twin.execute("take 0 1")
        self.assertIs(desk == twin, False)
        self.assertIs(desk != twin, True)
        self.assertEqual([desk.execute("row"), twin.execute("row")], [["plain a ;"], ["a ;"]])
        desk.execute("undo")
        self.assertEqual([twin.execute("undo"), twin.execute("undo"), twin.execute("undo"), desk.execute("undo")], [["done"], ["done"], ["nothing"], ["nothing"]])
        self.assertIs(desk == twin, True)

    def test_equal(self):
        one, other = desk_with("a b"), Desk()
        other.execute("put 0 b")
        other.execute("put 0 a")
        self.assertIs(one == other, True)
        self.assertIs(one != other, False)
        for thing in [*odd_values(), one.kept(), ("a", "b"), "a b", Desk()]:
            self.assertIs(one == thing, False)
            self.assertIs(one != thing, True)
        self.assertIs(one.kept() == one, False)
        self.assertIs(Desk() == Desk(), True)


class AgainstKept(unittest.TestCase):
    """What a desk answers is what its Kept tells."""

    def answer(self, kept, line):
        word, *parts = line.split()
        row = kept.row()
        if word == "put":
            kept.put(int(parts[0]), cut(" ".join(parts[1:])))
            return ["done"]
        if word == "take":
            kept.take(int(parts[0]), int(parts[1]))
            return ["done"]
        if word == "write":
            many = 0
            for one in cut(" ".join(parts)):
                if not kept.write(one):
                    break
                many += 1
            return [f"{many} of {len(cut(' '.join(parts)))}"]
        try:
            if word == "finish":
                return [show(kept.finish())]
            if word == "undo":
                kept.undo()
                return ["done"]
            if word in ("offers", "instead"):
                index = int(parts[0]) if parts else len(row)
                words, new, number = kept.offers(index) if word == "offers" else kept.instead(index)
                return [*words, *["NAME"] * new, *["NUMBER"] * number]
            if word == "lacks":
                found = kept.lacks()
                return [" ".join(f"{kind} {count}" for kind, count in one) or "nothing" for one in found] or ["no stock"]
            if word == "right":
                found = broken(read_program(row))
                return ["right"] if found is None else [f"{found[0]} {found[1]}"]
        except (NoEnding, Nothing, NoTree) as error:
            return [{"NoEnding": "no ending", "Nothing": "nothing"}.get(type(error).__name__) or f"unread {error.index}"]
        dead = kept.dead()
        return ["none"] if dead is None else [f"{dead} {row[dead]}"]

    def test_by_chance(self):
        for seed in range(10):
            chance = random.Random(seed)
            row = rights()[seed % len(rights())]
            desk, kept = desk_with(show(row)), Kept(())
            kept.put(0, row)
            for _ in range(30):
                many = len(kept.row())
                index = chance.randint(0, many)
                lines = [f"put {index} {chance.choice(row)}", f"take {index} {min(many - index, chance.randint(0, 9))}", f"write {chance.choice(row)} {chance.choice(row)}", "finish", "undo", "undo", "dead", "lacks", "right", "offers", f"offers {index}"]
                line = chance.choice([*lines, *([f"instead {index}"] if index < many else [])])
                self.assertEqual(desk.execute(line), self.answer(kept, line), (line, show(kept.row())))
                self.assertEqual(desk.kept(), kept)

    def test_offered_words_can_be_written(self):
        """At the desk each offered word leads on, and no other does."""
        for seed in range(6):
            chance = random.Random(seed)
            desk = desk_with(HEAD + PARAMETERS)
            for at in range(12):
                offered = [{"NAME": f"new{at}", "NUMBER": "1"}.get(word, word) for word in desk.execute("offers")]
                self.assertTrue(offered)
                for word in ["let", "}", "give", "x", "1", f"new{at}", ";", "("]:
                    self.assertEqual(desk.twin().execute("write " + word), [f"{int(word in offered)} of 1"], (word, desk.execute("row")))
                desk.execute("write " + chance.choice(offered))
            self.assertTrue(is_beginning(desk.kept().row()))
            desk.execute("finish")
            self.assertEqual(desk.execute("right"), ["right"])


if __name__ == "__main__":
    unittest.main()
