"""[35], [36] and [9]: runs of right programs."""

import random
import unittest

from endsahead.errors import EndError, NoAnswer, TooLong
from endsahead.reader import read_text
from endsahead.right import is_right
from endsahead.running import calls_of, handed_over, run
from endsahead.values import are_fresh, is_of_kind, show_value, tokens_in
from authors import right_program
from runner import Labels, slow_run, world_for
from samples import odd_values
from tight import tight_program

HEAD = (
    "once tok; plain ink; record pair { left: tok, right: num } choice some { none, one: tok } choice way { up, down: num, far: pair } choice flat { high, low: num } "
    "given mint(): tok; given burn(tok): num; given ask(num, truth): truth; given draw(): some; given pick(ink): ink; "
)


def told(run_of):
    """Return what a run tells, with errors as tuples as slow_run has them."""
    try:
        return ("value", *run_of())
    except NoAnswer as error:
        return ("no answer", error.place)
    except TooLong as error:
        return ("too long", error.most)


def program_of(text):
    program = read_text(HEAD + text)
    assert is_right(program), text
    return program


class TheExample(unittest.TestCase):

    def setUp(self):
        mint, burn = ("given", "mint", (), "tok"), ("given", "burn", ("tok",), "num")
        pair = ("record", "pair", (("left", "tok"), ("right", "num")))
        one, two = ("let", "u", "tok", ("call", "mint", ())), ("let", "a", "num", ("call", "burn", (("name", "u"),)))
        last = ("give", ("record", "pair", (("name", "t"), ("add", ("name", "n"), ("num", 1)))))
        f = ("def", "f", (("t", "tok"), ("n", "num")), "pair", (("repeat", ("name", "n"), (one, two)), last))
        self.program = (("once", "tok"), pair, mint, burn, f)
        self.world = (("tok", 1), 5, ("tok", 2), 6)

    def test_example(self):
        program, world = self.program, self.world
        value, log = run(program, "f", (("tok", 0), 2), world, 8)
        self.assertEqual([value, log], [("pair", (("tok", 0), 3)), [("mint", ()), ("burn", (("tok", 1),)), ("mint", ()), ("burn", (("tok", 2),))]])
        found = [handed_over(program, log, value), calls_of(log, "burn"), run(program, "f", (("tok", 0), -4), (), 2)]
        self.assertEqual(found, [(("tok", 1), ("tok", 2), ("tok", 0)), [(("tok", 1),), (("tok", 2),)], (("pair", (("tok", 0), -3)), [])])
        cases = [(world[:3], 9, ("no answer", 3)), (world, 5, ("too long", 5)), ((("tok", 1), True), 9, ("no answer", 1))]
        for given, most, wanted in cases:
            self.assertEqual(told(lambda: run(program, "f", (("tok", 0), 2), given, most)), wanted)
        found = [show_value(program, value), is_of_kind(program, "pair", value), is_of_kind(program, "num", True), tokens_in(program, value)]
        self.assertEqual(found, ["pair{tok#0, 3}", True, False, (("tok", 0),)])
        self.assertEqual([are_fresh(program, [value, ("tok", 1)]), are_fresh(program, (value, ("tok", 0))), is_of_kind(program, "tok", ("tok", -1))], [True, False, False])

    def test_exactly_one_step_more(self):
        for most in range(8):
            with self.assertRaises(TooLong) as caught:
                run(self.program, "f", (("tok", 0), 2), self.world, most)
            self.assertEqual(caught.exception.most, most)
        self.assertEqual(run(self.program, "f", (("tok", 0), 2), self.world, 8), run(self.program, "f", (("tok", 0), 2), self.world, 10 ** 39))

    def test_what_is_returned_is_new(self):
        first = run(self.program, "f", (("tok", 0), 2), self.world, 8)
        first[1].clear()
        self.assertEqual(len(run(self.program, "f", (("tok", 0), 2), self.world, 8)[1]), 4)
        log = run(self.program, "f", (("tok", 0), 2), self.world, 8)[1]
        calls_of(log, "burn").append(3)
        self.assertEqual(calls_of(log, "burn"), [(("tok", 1),), (("tok", 2),)])


class Statements(unittest.TestCase):

    def value(self, text, arguments=(), world=(), most=100):
        return run(program_of(text), "f", arguments, world, most)[0]

    def test_let_and_open(self):
        self.assertEqual(self.value("def f(n: num): num { let a: num = n + 1; let b: num = a + a; give b + a; }", (4,)), 15)
        self.assertEqual(self.value("def f(p: pair): pair { open pair { a, b } = p; give pair { a, b + 1 }; }", (("pair", (("tok", 3), 9)),)), ("pair", (("tok", 3), 10)))

    def test_if(self):
        text = "def f(b: truth, n: num): num { if b { if n < 2 { give 1; } } else { if n < 2 { } else { give 2; } } give 3; }"
        found = [self.value(text, (truth, number)) for truth in (True, False) for number in (1, 2)]
        self.assertEqual(found, [1, 3, 3, 2])

    def test_match(self):
        text = "def f(w: way): num { match way w { up { give 1; } down d { give d + 2; } far p { let q: num = p.right; if q < 3 { give q; } } } give 9; }"
        found = [self.value(text, (way,)) for way in (("up", None), ("down", -7), ("far", ("pair", (("tok", 1), 2))), ("far", ("pair", (("tok", 1), 3))))]
        self.assertEqual(found, [1, -5, 2, 9])

    def test_repeat(self):
        text = "def f(n: num): num { repeat n { let t: tok = mint(); let a: num = burn(t); } give n; }"
        for number in (0, -1, -(10 ** 39)):
            self.assertEqual(told(lambda: run(program_of(text), "f", (number,), (), 2)), ("value", number, []))
            self.assertEqual(told(lambda: run(program_of(text), "f", (number,), (), 1)), ("too long", 1))
        world = (("tok", 1), 4, ("tok", 2), 5, ("tok", 3), 6)
        self.assertEqual(told(lambda: run(program_of(text), "f", (3,), world, 11))[2], [("mint", ()), ("burn", (("tok", 1),)), ("mint", ()), ("burn", (("tok", 2),)), ("mint", ()), ("burn", (("tok", 3),))])
        self.assertEqual(told(lambda: run(program_of(text), "f", (3,), world, 10)), ("too long", 10))
        self.assertEqual(told(lambda: run(program_of(text), "f", (10 ** 39,), (), 50)), ("no answer", 0))
        empty = "def f(n: num): num { repeat n { } give 7; }"
        self.assertEqual(told(lambda: run(program_of(empty), "f", (98,), (), 100)), ("value", 7, []))
        self.assertEqual(told(lambda: run(program_of(empty), "f", (99,), (), 100)), ("too long", 100))

    def test_names_are_made_anew_in_each_turn(self):
        text = "def f(n: num): num { repeat n { match some draw() { none { let x: num = 1; } one t { let x: num = burn(t); if x < 3 { give x; } } } let x: truth = ask(n, true); if x { give 100; } } give 0; }"
        program = program_of(text)
        for world in [(("none", None), False, ("one", ("tok", 4)), 2), (("one", ("tok", 4)), 5, True), (("one", ("tok", 4)), 5, False, ("none", None), False), (("none", None), True)]:
            found = told(lambda: run(program, "f", (2,), world, 50))
            self.assertEqual(found, slow_run(program, "f", (2,), world, 50)[:3])
        self.assertEqual(found, ("value", 100, [("draw", ()), ("ask", (2, True))]))

    def test_a_give_within_others(self):
        deep = "def f(n: num, w: flat): num { repeat n { repeat 2 { if n < 5 { match flat w { high { give 11; } low d { repeat d { give d; } } } } } } give 0; }"
        program = program_of(deep)
        cases = [((3, ("high", None)), 11, 7), ((3, ("low", 4)), 4, 9), ((0, ("high", None)), 0, 2), ((1, ("low", 0)), 0, 12), ((6, ("high", None)), 0, 1 + 6 * (1 + 1 + 2 * 2) + 1)]
        for arguments, wanted, steps in cases:
            self.assertEqual(slow_run(program, "f", arguments, (), 100)[::3], ("value", steps))
            self.assertEqual(told(lambda: run(program, "f", arguments, (), steps)), ("value", wanted, []))
            self.assertEqual(told(lambda: run(program, "f", arguments, (), steps - 1)), ("too long", steps - 1))

    def test_behind_a_give_the_caller_goes_on(self):
        text = "def e(n: num): num { repeat 3 { if n < 2 { give n; } } give 5; } def d(n: num): num { repeat 2 { let a: num = e(n); if a < 1 { give a + 10; } } give e(n) + 20; } def f(n: num): num { let u: num = d(n) + d(n + 1); give u + e(n); }"
        program = program_of(text)
        for number in (-1, 0, 1, 2):
            self.assertEqual(told(lambda: run(program, "f", (number,), (), 200)), slow_run(program, "f", (number,), (), 200)[:3])
        self.assertEqual(self.value(text, (0,), (), 200), 10 + 21 + 0)


class Expressions(unittest.TestCase):

    def value(self, kind, text, world=(), parameters="n: num, b: truth, w: way", arguments=(7, True, ("up", None))):
        return run(program_of(f"def f({parameters}): {kind} {{ give {text}; }}"), "f", arguments, world, 10)[0]

    def test_each_sort(self):
        cases = {("num", "3"): 3, ("num", "n + 3 + n"): 17, ("truth", "true"): True, ("truth", "n < 7"): False, ("truth", "n < 8"): True, ("truth", "b and false"): False, ("truth", "b and n < 9 and true"): True, ("way", "up"): ("up", None), ("way", "down(n + 1)"): ("down", 8)}
        cases.update({("way", "far(pair { mint(), 2 })"): ("far", ("pair", (("tok", 5), 2))), ("num", "pair { mint(), n }.right"): 7, ("tok", "pair { mint(), n }.left"): ("tok", 5), ("some", "one(mint())"): ("one", ("tok", 5)), ("way", "w"): ("up", None)})
        for (kind, text), wanted in cases.items():
            found = self.value(kind, text, (("tok", 5),))
            self.assertEqual([found, type(found)], [wanted, type(wanted)], text)

    def test_all_parts_are_made_from_left_to_right(self):
        text = "ask(1, true) and (ask(2, false) and ask(burn(mint()) + 3, n < 2)) and ask(4, b)"
        for world in [(False, False, ("tok", 1), 9, False, False), (True, True, ("tok", 1), 9, True, True), (True, False, ("tok", 1), 9, True, False)]:
            program = program_of(f"def f(n: num, b: truth): truth {{ give {text}; }}")
            value, log = run(program, "f", (7, True), world, 1)
            self.assertIs(value, all(answer is True for answer in world if isinstance(answer, bool)))
            self.assertEqual(log, [("ask", (1, True)), ("ask", (2, False)), ("mint", ()), ("burn", (("tok", 1),)), ("ask", (12, False)), ("ask", (4, True))])

    def test_parts_of_calls_records_and_sums_from_left_to_right(self):
        program = program_of("def e(a: num, b: num, c: num): num { give a + b + c; } def f(): pair { give pair { mint(), e(burn(mint()), burn(mint()) + burn(mint()), 1) }; }")
        world = (("tok", 1), ("tok", 2), 10, ("tok", 3), 20, ("tok", 4), 30)
        value, log = run(program, "f", (), world, 2)
        self.assertEqual(value, ("pair", (("tok", 1), 61)))
        self.assertEqual(log, [("mint", ()), ("mint", ()), ("burn", (("tok", 2),)), ("mint", ()), ("burn", (("tok", 3),)), ("mint", ()), ("burn", (("tok", 4),))])

    def test_truths_stay_truths(self):
        self.assertIs(self.value("truth", "b and (n < 3)"), False)
        self.assertIs(self.value("truth", "true and b"), True)

    def test_great_numbers(self):
        program = program_of("def e(n: num): num { give n + n; } def f(n: num): num { give e(e(e(e(e(e(e(e(n)))))))); }")
        self.assertEqual(run(program, "f", (10 ** 39,), (), 100)[0], 256 * 10 ** 39)

    def test_functions_that_call_others(self):
        texts = ["def f0(n: num): num { give n + 1; } "]
        for at in range(1, 12):
            texts.append(f"def f{at}(n: num): num {{ let a: num = f{at - 1}(n); give f{at - 1}(a); }} ")
        program = program_of("".join(texts))
        self.assertEqual(run(program, "f11", (0,), (), 10 ** 5)[0], 2 ** 11)
        steps = slow_run(program, "f11", (0,), (), 10 ** 5)[3]
        self.assertEqual(told(lambda: run(program, "f11", (0,), (), steps - 1)), ("too long", steps - 1))
        self.assertEqual(run(program, "f11", (0,), (), steps)[0], 2 ** 11)

    def test_deep_trees(self):
        deep = "0"
        for _ in range(300):
            deep = f"({deep} + 1)"
        sum_of = " + ".join(["1"] * 500)
        self.assertEqual(self.value("num", f"{sum_of} + {deep}"), 800)


class Worlds(unittest.TestCase):

    def setUp(self):
        self.program = program_of("def f(t: tok): num { let a: num = burn(t); let s: some = draw(); let b: truth = ask(a, true); if b { give a; } else { give burn(mint()); } }")

    def told(self, world, most=100):
        return told(lambda: run(self.program, "f", (("tok", 0),), world, most))

    def test_answers(self):
        world = (8, ("none", None), False, ("tok", 1), 4)
        self.assertEqual(self.told(world), ("value", 4, [("burn", (("tok", 0),)), ("draw", ()), ("ask", (8, True)), ("mint", ()), ("burn", (("tok", 1),))]))
        for many in range(5):
            self.assertEqual(self.told(world[:many]), ("no answer", many))

    def test_more_than_come(self):
        for more in odd_values():
            self.assertEqual(self.told((8, ("none", None), True, more, more)), ("value", 8, [("burn", (("tok", 0),)), ("draw", ()), ("ask", (8, True))]))

    def test_answers_of_another_kind(self):
        for thing in odd_values():
            is_number = isinstance(thing, int) and not isinstance(thing, bool)
            self.assertEqual(self.told((thing,)), ("no answer", 1 if is_number else 0))
            self.assertEqual(self.told((1, thing)), ("no answer", 1))
            self.assertEqual(self.told((1, ("one", ("tok", 0)), thing))[0], "value" if thing is True else "no answer")
        for thing in [("tok", -1), ("tok", True), ("ink", 1), ["tok", 1], ("tok",), ("tok", 1, 1), 1]:
            self.assertEqual(self.told((8, ("none", None), False, thing, 4)), ("no answer", 3))
        self.assertEqual(self.told((8, ("one", None), True)), ("no answer", 1))
        self.assertEqual(self.told((8, ("none", 3), True)), ("no answer", 1))
        self.assertEqual(self.told((8, ("up", None), True)), ("no answer", 1))
        self.assertEqual(self.told((8, ("none", None), 1)), ("no answer", 2))
        self.assertEqual(self.told((True, ("none", None), True)), ("no answer", 0))

    def test_whichever_comes_first(self):
        self.assertEqual([self.told((), most) for most in (0, 1, 2)], [("too long", 0), ("no answer", 0), ("no answer", 0)])
        self.assertEqual([self.told((8,), most) for most in (0, 1, 2, 3)], [("too long", 0), ("too long", 1), ("no answer", 1), ("no answer", 1)])
        self.assertEqual([self.told((8, ("none", None), True), most)[0] for most in (3, 4, 5)], ["too long", "too long", "value"])

    def test_errors_keep_what_they_are_told(self):
        with self.assertRaises(EndError):
            run(self.program, "f", (("tok", 0),), (), 5)
        with self.assertRaises(TooLong) as caught:
            run(self.program, "f", (("tok", 0),), (), 0)
        self.assertEqual(caught.exception.most, 0)


class Told(unittest.TestCase):

    def test_handed_over(self):
        program = program_of("")
        log = [("mint", ()), ("burn", (("tok", 4),)), ("ask", (3, True)), ("give", (("pair", (("tok", 2), 9)), ("one", ("tok", 4)), ("ink", 3)))]
        self.assertEqual(handed_over(program, log, 5), (("tok", 4), ("tok", 2), ("tok", 4)))
        self.assertEqual(handed_over(program, log, ("far", ("pair", (("tok", 0), 1)))), (("tok", 4), ("tok", 2), ("tok", 4), ("tok", 0)))
        self.assertEqual([handed_over(program, [], ("tok", 3)), handed_over(program, [], ("ink", 3)), handed_over(program, [("mint", ())], True)], [(("tok", 3),), (), ()])

    def test_calls_of(self):
        log = [("mint", ()), ("burn", (1, 2)), ("mint", ()), ("burn", (3,))]
        self.assertEqual([calls_of(log, "burn"), calls_of(log, "mint"), calls_of(log, "ask"), calls_of([], "burn")], [[(1, 2), (3,)], [(), ()], [], []])
        self.assertEqual(len(log), 4)


class ByChance(unittest.TestCase):

    def runs(self, many, programs=right_program):
        """Tell runs by chance: tuples (program, name, arguments, world)."""
        for seed in range(many):
            program = programs(seed)
            if program is None:
                continue
            for declared in program:
                if declared[0] == "def":
                    labels = Labels(random.Random(seed), program)
                    arguments = tuple(labels.value(kind) for _, kind in declared[2])
                    yield program, declared[1], arguments, world_for(labels, program, declared[1], arguments, 60)

    def test_against_slow_runs(self):
        seen = {}
        for program, name, arguments, world in self.runs(600, lambda seed: right_program(seed, 6, 5, 3, 3)):
            wanted = slow_run(program, name, arguments, world, 60)
            self.assertEqual(told(lambda: run(program, name, arguments, world, 60)), wanted[:3])
            seen[wanted[0]] = seen.get(wanted[0], 0) + 1
            for cut in {0, len(world) // 2, len(world) - 1} & set(range(len(world))):
                self.assertEqual(told(lambda: run(program, name, arguments, world[:cut], 60)), slow_run(program, name, arguments, world[:cut], 60)[:3])
            if wanted[0] == "value":
                steps = wanted[3]
                self.assertEqual(told(lambda: run(program, name, arguments, world, steps)), wanted[:3])
                self.assertEqual(told(lambda: run(program, name, arguments, world, steps - 1)), ("too long", steps - 1))
                self.assertEqual(told(lambda: run(program, name, arguments, (*world, None, 3), steps)), wanted[:3])
        self.assertTrue(seen["value"] > 100 and seen.get("too long", 0) >= 0, seen)

    def test_no_token_comes_twice(self):
        """[36], [9]: what is fresh ahead of a run is handed over at most once."""
        tokens = 0
        makers = [lambda seed: right_program(seed, 6, 6, 3, 3), tight_program]
        for programs in makers:
            for program, name, arguments, world in self.runs(300, programs):
                self.assertIs(are_fresh(program, [*arguments, *world]), True)
                found = told(lambda: run(program, name, arguments, world, 60))
                if found[0] == "value":
                    over = handed_over(program, found[2], found[1])
                    self.assertEqual(len(over), len(set(over)), (program, name, arguments, world))
                    self.assertTrue(set(over) <= {token for value in (*arguments, *world) for token in tokens_in(program, value)})
                    tokens += len(over)
        self.assertGreater(tokens, 100)

    def test_a_program_that_is_not_right_may_hand_over_twice(self):
        """So what [36] tells hangs on the rules."""
        program = read_text("once tok; given burn(tok): num; def f(t: tok): num { give burn(t) + burn(t); }")
        self.assertIs(is_right(program), False)
        value, log = run(program, "f", (("tok", 0),), (1, 2), 9)
        self.assertEqual(handed_over(program, log, value), (("tok", 0), ("tok", 0)))

    def test_kinds_are_kept(self):
        """[9]: a value is of the kind of the function, arguments of givens of their kinds."""
        for program, name, arguments, world in self.runs(200):
            found = told(lambda: run(program, name, arguments, world, 60))
            if found[0] == "value":
                kinds = {declared[1]: declared[2] for declared in program if declared[0] == "given"}
                made = next(declared[3] for declared in program if declared[1] == name)
                self.assertIs(is_of_kind(program, made, found[1]), True)
                for called, values in found[2]:
                    self.assertEqual(len(values), len(kinds[called]))
                    self.assertTrue(all(is_of_kind(program, kind, value) for kind, value in zip(kinds[called], values)))

    def test_the_same_with_other_labels(self):
        runs = 0
        for program, name, arguments, world in self.runs(200):
            def other(value):
                if isinstance(value, tuple) and len(value) == 2 and isinstance(value[0], str) and isinstance(value[1], int) and not isinstance(value[1], bool) and value[0] in labelled:
                    return (value[0], value[1] + 1000)
                return tuple(other(part) for part in value) if isinstance(value, tuple) else value
            labelled = [declared[1] for declared in program if declared[0] in ("plain", "once")]
            found = told(lambda: run(program, name, arguments, world, 60))
            again = told(lambda: run(program, name, other(arguments), other(world), 60))
            if found[0] == "value":
                self.assertEqual(again, ("value", other(found[1]), [(called, other(values)) for called, values in found[2]]))
                runs += 1
            else:
                self.assertEqual(again, found)
        self.assertGreater(runs, 40)

    def test_the_same_with_more_and_fewer_declarations(self):
        for program, name, arguments, world in self.runs(150):
            found = told(lambda: run(program, name, arguments, world, 60))
            at = [declared[1] for declared in program].index(name)
            more = (*program, ("once", "more"), ("def", "more1", (("n", "num"),), "num", (("give", ("name", "n")),)))
            self.assertIs(is_right(more), True)
            self.assertEqual(told(lambda: run(more, name, arguments, world, 60)), found)
            self.assertEqual(told(lambda: run(program[:at + 1], name, arguments, world, 60)), found)


if __name__ == "__main__":
    unittest.main()
