"""[20]: which programs are right, and which rule a program breaks first."""

import random
import unittest

from endsahead.errors import EndError, Wrong
from endsahead.reader import read_program, read_text
from endsahead.right import broken, is_right, is_right_row, sights
from endsahead.shower import row_of
from endsahead.words import cut, is_row
from authors import right_program
from samples import odd_values

HEAD = (
    "plain ink; once tok; record pair { left: tok, right: num } record page { left: ink, sure: truth } "
    "choice some { none, one: pair } given mint(ink, num): tok; given ask(): truth; given use(tok): num; "
)
AHEAD = 8
PARAMETERS = "(i: ink, t: tok, s: tok, p: pair, v: some, n: num, b: truth)"


def rule(text):
    """Return the word of the rule that the last declaration of a text breaks, behind HEAD."""
    found = broken(read_text(HEAD + text))
    return None if found is None else found[1] if found[0] == len(read_text(HEAD + text)) - 1 else found


def rule_of_block(text):
    """Return the word of the rule that a function with this block breaks; it gives 1 at its end."""
    return rule(f"def f{PARAMETERS}: num {{ {text} give 1; }}")


def rule_of_whole(text):
    """Return the word of the rule that a function with this whole block breaks."""
    return rule(f"def f{PARAMETERS}: num {{ {text} }}")


class TheExample(unittest.TestCase):

    def setUp(self):
        self.head = "once seal; record pair { one: seal, many: num } given stamp(seal): num; "
        self.right = "def f(s: seal, n: num): num { if n < 1 { let k: num = stamp(s); } else { give n; } give n; }"

    def test_rules(self):
        texts = ["def f(s: seal): num { let s: num = 1; give s; }", "def f(s: sael): num { give 1; }", "def f(s: seal): num { give stamp(s, 1); }"]
        texts.extend(["def f(n: num): num { give n; give 1; }", "def f(s: seal): num { give s; }", "def f(s: seal): num { give stamp(s) + stamp(s); }"])
        found = [broken(read_text(self.head + text)) for text in texts]
        self.assertEqual(found, [(3, "name"), (3, "unknown"), (3, "many"), (3, "give"), (3, "kind"), (3, "spent")])
        loop = "def g(s: seal, p: pair): num { repeat 2 { let t: seal = s; } give 1; }"
        self.assertEqual([broken(read_text(self.head + self.right)), broken(read_text(self.head + loop))], [None, (3, "spent")])
        self.assertIs(is_right(read_text(self.head)), True)
        self.assertEqual([is_right_row(("once", "a", ";", "once", "a", ";")), is_right_row(("once",))], [False, False])

    def test_sights(self):
        sight = {"n": "num", "s": "seal"}
        found = sights(read_text(self.head + self.right), 3)
        self.assertEqual(found, [("if", sight), ("let", sight), ("give", sight), ("give", sight)])


class Names(unittest.TestCase):

    def test_declarations(self):
        again = ["plain tok;", "once ink;", "record some { a: num }", "choice mint { x }", "given pair(): num;", "def use(): num { give 1; }"]
        again += ["plain none;", "given one(): num;", "record one { a: num }", "choice none { x }", "once f; plain f;"]
        for text in again:
            self.assertEqual(rule(text), "name", text)
        for text in ["plain left;", "once sure;", "given right(): num;", "choice left { sure, right }", "plain a;"]:
            self.assertIsNone(rule(text), text)

    def test_fields(self):
        self.assertEqual([rule("record r { a: num, a: num }"), rule("record r { a: num, b: tok, a: ink }")], ["name", "name"])
        for text in ["record r { r: num }", "record r { tok: tok, one: num, use: num }", "record r { left: num, sure: num }"]:
            self.assertIsNone(rule(text), text)

    def test_arms_see_their_choice_and_the_arms_ahead(self):
        for text in ["choice c { c }", "choice c { a, c }", "choice c { a, a }", "choice c { a, b, a: num }", "choice c { none }", "choice c { a, tok: num }"]:
            self.assertEqual(rule(text), "name", text)
        self.assertIsNone(rule("choice c { a, b, d: tok }"))

    def test_parameters(self):
        for text in ["def f(f: num): num", "def f(a: num, a: num): num", "def f(a: num, tok: num): num", "def f(none: num): num", "def f(use: tok): num"]:
            self.assertEqual(rule(text + " { give 1; }"), "name", text)
        self.assertIsNone(rule("def f(left: num, sure: num): num { give 1; }"))

    def test_let(self):
        for name in ["t", "f", "tok", "none", "one", "mint", "pair"]:
            self.assertEqual(rule_of_block(f"let {name}: num = 1;"), "name", name)
        texts = ["let a: num = 1; let a: num = 1;", "let a: num = 1; if b { let a: num = 1; }", "if b { let a: num = 1; let a: num = 1; }"]
        texts += ["let a: num = 1; repeat 1 { let a: num = 1; }", "if b { } else { let n: num = 1; }", "repeat 1 { if b { let t: num = 1; } }"]
        for text in texts:
            self.assertEqual(rule_of_block(text), "name", text)
        self.assertIsNone(rule_of_block("let left: num = 1; let sure: num = 2;"))

    def test_names_of_one_open(self):
        for names in ["a, a", "a, t", "f, a", "tok, a", "a, none"]:
            self.assertEqual(rule_of_block(f"open pair {{ {names} }} = p;"), "name", names)
        self.assertEqual(rule_of_block("let a: num = 1; open pair { c, a } = p;"), "name")
        self.assertEqual(rule_of_block("open pair { c, a } = p; let c: num = 1;"), "name")
        self.assertIsNone(rule_of_block("open pair { left, right } = p;"))

    def test_names_of_cases(self):
        for name in ["t", "f", "one", "pair", "v"]:
            self.assertEqual(rule_of_block(f"match some v {{ none {{ }} one {name} {{ }} }}"), "name", name)
        self.assertEqual(rule_of_block("let a: num = 1; match some v { none { } one a { } }"), "name")
        self.assertEqual(rule_of_block("match some v { none { } one a { let a: num = 1; } }"), "name")
        self.assertEqual(rule_of_block("match some v { none { } one a { if b { open pair { a, c } = a; } } }"), "name")

    def test_names_told_anew(self):
        texts = ["if b { let a: num = 1; } let a: num = 1;", "if b { let a: num = 1; } else { let a: tok = t; }", "repeat 1 { let a: num = 1; } let a: ink = i;"]
        texts += ["match some v { none { let a: num = 1; } one a { } } let a: num = 2;", "match some v { none { } one a { open pair { c, d } = a; } } let c: num = 1;"]
        for text in texts:
            self.assertIsNone(rule_of_block(text), text)

    def test_names_of_elder_functions_told_anew(self):
        elder = "def e(a: num): num { let c: num = 1; open pair { x, y } = pair { mint(d(), 1), 1 }; give a; } "
        head = "given d(): ink; "
        for text in ["def f(a: num, c: num): num { let x: num = 1; give x; }", "plain c;", "once a;", "record x { a: num }", "choice y { c }"]:
            self.assertIsNone(rule(head + elder + text), text)
        self.assertEqual(rule(head + elder + "def f(e: num): num { give 1; }"), "name")


class Unknown(unittest.TestCase):

    def test_kinds_in_heads(self):
        texts = ["record r { a: q }", "record r { a: r }", "record r { a: num, b: none }", "choice c { a: c }", "choice c { a, d: q }", "given g(q): num;"]
        texts += ["given g(): q;", "given g(num, use): num;", "def f(a: q): num { give 1; }", "def f(): q { give 1; }", "def f(a: f): num { give 1; }"]
        for text in texts:
            self.assertEqual(rule(text), "unknown", text)
        for text in ["record r { a: num, b: truth, c: some }", "choice c { a: page }", "given g(num, truth, pair): some;"]:
            self.assertIsNone(rule(text), text)

    def test_kinds_ahead_only(self):
        self.assertEqual(broken(read_text("record r { a: k } once k;")), (0, "unknown"))
        self.assertEqual(broken(read_text("once k; given f(): l; plain l;")), (1, "unknown"))

    def test_in_blocks(self):
        texts = ["let a: q = 1;", "let a: none = 1;", "let a: mint = t;", "open tok { a } = t;", "open some { a } = v;", "open q { a } = p;"]
        texts += ["match pair p { }", "match tok t { }", "match q v { none { } }", "match one v { none { } }", "if b { let a: q = 1; }"]
        for text in texts:
            self.assertEqual(rule_of_block(text), "unknown", text)

    def test_in_expressions(self):
        for text in ["q", "a", "tok", "pair", "some", "mint", "use", "f", "left", "q()", "t()", "tok(t)", "pair(t, 1)", "f(1)", "some(p)", "q { 1 }"]:
            self.assertEqual(rule_of_block(f"let a: num = {text};"), "unknown", text)
        for text in ["some { p }", "tok { t }", "none { 1 }", "use { t }", "use(q)", "pair { q, 1 }.left", "1 + (2 + q)", "q.left", "mint(i, use(q))"]:
            self.assertEqual(rule_of_block(f"let a: num = {text};"), "unknown", text)
        self.assertEqual(rule_of_block("if b { repeat 1 { let a: num = q; } }"), "unknown")

    def test_no_function_calls_itself(self):
        self.assertEqual(rule("def e(): num { give e(); }"), "unknown")
        self.assertEqual(broken(read_text("def d(): num { give e(); } def e(): num { give 1; }")), (0, "unknown"))
        self.assertIsNone(rule("def d(): num { give 1; } def e(): num { give d(); }"))

    def test_names_that_cannot_be_seen_yet_or_any_more(self):
        texts = ["let a: num = a;", "let a: num = c; let c: num = 1;", "if b { let a: num = 1; } let c: num = a;", "if b { let a: num = 1; } else { let c: num = a; }"]
        texts += ["match some v { none { let a: pair = x; } one x { } }", "match some v { none { } one x { } } let a: pair = x;", "open pair { c, d } = pair { c, 1 };"]
        for text in texts:
            self.assertEqual(rule_of_block(text), "unknown", text)


class Many(unittest.TestCase):

    def test_calls(self):
        for text in ["use()", "use(t, 1)", "mint(i)", "mint(i, 1, 2)", "ask(1)", "one()", "one(p, p)", "none()", "none(p)"]:
            self.assertEqual(rule_of_block(f"let a: num = {text};"), "many", text)
        self.assertEqual(rule("def d(a: num): num { give a; } def e(): num { give d(); }"), "many")

    def test_an_arm_with_a_part_alone(self):
        self.assertEqual([rule_of_block("let a: some = one;"), rule_of_block("let a: some = none;")], ["many", None])

    def test_records(self):
        for text in ["pair { t }", "pair { t, 1, 1 }", "page { i }"]:
            self.assertEqual(rule_of_block(f"let a: num = {text}.left;"), "many", text)
        for text in ["open pair { a } = p;", "open pair { a, c, d } = p;", "if b { open page { a } = p; }"]:
            self.assertEqual(rule_of_block(text), "many", text)

    def test_deep_within(self):
        self.assertEqual(rule_of_block("let a: num = 1 + (2 + use(mint(i)));"), "many")

    def test_names_of_an_open_with_too_many_can_be_seen(self):
        self.assertEqual(rule_of_block("open pair { a, c, d } = p; let e: num = d;"), "many")
        self.assertEqual(rule_of_block("open pair { a, c, d } = p; let e: num = h;"), "unknown")


class Arms(unittest.TestCase):

    def test_arms(self):
        texts = ["", "none { }", "one x { }", "one x { } none { }", "none { } one x { } none { }", "none { } none { }", "none { } two x { }", "none { } one { }"]
        texts += ["none x { } one y { }", "none { } one x { } two { }"]
        for text in texts:
            self.assertEqual(rule_of_block(f"match some v {{ {text} }}"), "arms", text)
        self.assertIsNone(rule_of_block("match some v { none { } one x { } }"))
        self.assertEqual(rule_of_block("if b { match some v { none { } } }"), "arms")


class Give(unittest.TestCase):

    def test_the_block_of_a_function(self):
        texts = ["", "let a: num = 1;", "if b { give 1; }", "if b { give 1; } else { }", "repeat 1 { give 1; }", "match some v { none { give 1; } one x { } }"]
        for text in texts:
            self.assertEqual(rule_of_whole(text), "give", text)
        texts = ["give 1;", "if b { give 1; } else { give 2; }", "match some v { none { give 1; } one x { give 2; } }", "repeat 1 { give 1; } give 2;"]
        for text in texts:
            self.assertIsNone(rule_of_whole(text), text)

    def test_what_gives_is_the_last_statement(self):
        texts = ["give 1; let a: num = 1;", "if b { give 1; } else { give 2; }", "match some v { none { give 1; } one x { give 2; } }", "if b { give 1; give 2; }"]
        texts += ["repeat 1 { give 1; let a: num = 1; }", "if b { if b { give 1; } else { give 1; } let a: num = 1; }", "match some v { none { give 1; give 1; } one x { } }"]
        for text in texts:
            self.assertEqual(rule_of_block(text), "give", text)


class Kind(unittest.TestCase):

    def test_each_place(self):
        texts = ["let a: num = b;", "let a: tok = i;", "let a: pair = t;", "open pair { a, c } = t;", "open pair { a, c } = page { i, b };", "if n { }", "if t { }"]
        texts += ["match some p { none { } one x { } }", "repeat b { }", "repeat t { }", "if b { give b; }", "if b { give t; }", "let a: num = 1 + b;", "let a: num = p.left;"]
        texts += ["let a: num = use(i);", "let a: some = one(t);", "let a: pair = pair { 1, t };", "let a: truth = 1;", "let a: truth = 1 and b;", "let a: num = p.sure;", "let a: num = n.left;"]
        for text in texts:
            self.assertEqual(rule_of_block(text), "kind", text)

    def test_kinds_of_names_made(self):
        self.assertIsNone(rule_of_block("open pair { x, y } = p; let a: tok = x; let c: num = y;"))
        self.assertEqual(rule_of_block("open pair { x, y } = p; let a: num = x;"), "kind")
        self.assertIsNone(rule_of_block("match some v { none { } one x { let a: pair = x; } }"))
        self.assertEqual(rule_of_block("match some v { none { } one x { let a: tok = x; } }"), "kind")

    def test_give_in_a_function_of_another_kind(self):
        self.assertEqual([rule("def e(t: tok): tok { give t; }"), rule("def e(t: tok): tok { give 1; }")], [None, "kind"])


class Spent(unittest.TestCase):

    def test_twice(self):
        texts = ["let a: tok = t; let c: tok = t;", "let a: num = use(t) + use(t);", "repeat 1 { let a: tok = t; }", "if b { let a: tok = t; } let c: tok = t;"]
        for text in texts:
            self.assertEqual(rule_of_block(text), "spent", text)
        texts = ["if b { let a: tok = t; } else { let a: tok = t; }", "if b { give use(t); } let a: tok = t;", "let a: ink = i; let c: ink = i;", "let a: tok = t;"]
        for text in texts:
            self.assertIsNone(rule_of_block(text), text)


class Order(unittest.TestCase):

    def test_the_first_word_that_is_broken(self):
        parts = {
            "name": "let t: num = 1;", "unknown": "let a: q = 1;", "many": "let c: num = use();", "arms": "match some v { none { } }",
            "give": "if b { give 1; give 1; }", "kind": "let d: num = b;", "spent": "let e: num = use(t) + use(t);",
        }
        words = list(parts)
        for at, word in enumerate(words):
            for text in (" ".join(parts[other] for other in words[at:]), " ".join(parts[other] for other in words[:at - 1 if at else None:-1])):
                self.assertEqual(rule_of_block(text), word, text)

    def test_the_first_declaration_that_is_broken(self):
        spent = "def e(t: tok): num { give use(t) + use(t); } "
        self.assertEqual(broken(read_text(HEAD + spent + "plain ink; plain e;")), (AHEAD, "spent"))
        self.assertEqual(broken(read_text(HEAD + "plain ink; " + spent)), (AHEAD, "name"))
        self.assertEqual([broken(()), broken(read_text("plain a; plain b; plain a; plain q;"))], [None, (2, "name")])

    def test_rules_that_heads_break_too(self):
        self.assertEqual(rule("def f(f: q): num { }"), "name")
        self.assertEqual(rule("def f(a: q): num { }"), "unknown")
        self.assertEqual(rule("record tok { a: q, a: q }"), "name")


class RightPrograms(unittest.TestCase):

    def test_programs_by_chance(self):
        for seed in range(300):
            program = right_program(seed)
            self.assertIsNone(broken(program), seed)
            self.assertIs(is_right(program), True)
            self.assertIs(is_right_row(row_of(program)), True)

    def test_each_first_part_of_a_right_program_is_right(self):
        for seed in range(40):
            program = right_program(seed)
            self.assertTrue(all(is_right(program[:many]) for many in range(len(program))))


class Rows(unittest.TestCase):

    def test_rows(self):
        row = cut(HEAD + "def f(n: num): num { give ((n) + 1); }")
        self.assertEqual([is_right_row(row), is_right_row(row[:-1]), is_right_row(()), is_right_row((*row, "plain", "f", ";"))], [True, False, True, False])

    def test_what_is_no_row(self):
        for thing in [*odd_values(), ["plain", "a", ";"], "plain a ;", ("plain", "A", ";"), ("plain", None)]:
            if not is_row(thing):
                with self.assertRaises(Wrong) as caught:
                    is_right_row(thing)
                self.assertEqual(caught.exception.place, 0)

    def test_any_row(self):
        for thing in odd_values():
            try:
                self.assertIs(is_right_row(thing), thing == ())
            except EndError as error:
                self.assertIsInstance(error, Wrong)

    def test_rows_far_longer(self):
        deep = (*cut("def f(b: truth): num {"), *["if", "b", "{"] * 1500, *["}"] * 1500, "give", "1", ";", "}")
        self.assertIs(is_right_row(deep), True)
        brackets = (*cut("def f(): num { give"), *["("] * 2500, "1", *[")"] * 2500, ";", "}")
        sums = (*cut("def f(): num { give 1"), *["+", "1"] * 2500, ";", "}")
        self.assertEqual([is_right_row(brackets), is_right_row(sums), is_right_row(brackets[:-4])], [True, True, False])
        lets = " ".join(f"let a{at}: num = 1;" for at in range(300))
        self.assertIs(is_right_row(cut("def f(): num { " + lets + " give 1; }")), True)

    def test_rows_with_words_exchanged(self):
        for seed in range(100):
            chance = random.Random(seed)
            row = list(row_of(right_program(seed)))
            row[chance.randrange(len(row))] = chance.choice(row)
            try:
                wanted = is_right(read_program(tuple(row)))
            except EndError:
                wanted = False
            self.assertIs(is_right_row(tuple(row)), wanted)


class Sights(unittest.TestCase):

    def test_blocks_in_blocks(self):
        text = "def f(v: some, b: truth, i: ink): num { let z: num = 1; match some v { none { let a: num = 1; } one c { open pair { y, x } = c; "
        text += "if b { let a: num = x; give a; } else { repeat 1 { let d: num = x; } let e: num = 2; } } } let k: truth = b; give z; }"
        program = read_text(HEAD + text)
        self.assertIsNone(broken(program))
        base = {"b": "truth", "i": "ink", "v": "some"}
        first = {**base, "z": "num"}
        case = {**first, "c": "pair"}
        opened = {**case, "x": "num", "y": "tok"}
        wanted = [("let", base), ("match", first), ("let", first), ("open", case), ("if", opened), ("let", opened)]
        wanted += [("give", {**opened, "a": "num"}), ("repeat", opened), ("let", opened), ("let", opened), ("let", first), ("give", {**first, "k": "truth"})]
        found = sights(program, AHEAD)
        self.assertEqual(found, wanted)
        self.assertTrue(all(list(sight) == sorted(sight) for _, sight in found))

    def test_no_names(self):
        self.assertEqual(sights(read_text("def f(): num { give 1; }"), 0), [("give", {})])

    def test_behind_a_case_without_a_name(self):
        program = read_text(HEAD + "def f(v: some): num { match some v { none { repeat 1 { } } one x { } } give 1; }")
        self.assertEqual([word for word, _ in sights(program, AHEAD)], ["match", "repeat", "give"])
        self.assertEqual(sights(program, AHEAD)[1][1], {"v": "some"})

    def test_what_is_told_is_new(self):
        program = read_text(HEAD + "def f(v: some, n: num): num { let a: num = n; give a; }")
        found = sights(program, AHEAD)
        wanted = [("let", {"n": "num", "v": "some"}), ("give", {"a": "num", "n": "num", "v": "some"})]
        self.assertEqual(found, wanted)
        found[0][1]["q"] = "tok"
        found[1][1].clear()
        found.append(None)
        self.assertEqual(sights(program, AHEAD), wanted)

    def test_no_two_dicts_are_one(self):
        found = sights(read_text("def f(n: num): num { if true { } if true { } give n; }"), 0)
        self.assertEqual(len({id(sight) for _, sight in found}), 3)


if __name__ == "__main__":
    unittest.main()
