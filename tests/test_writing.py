"""[26]: shapes and plans written with names."""

import unittest

import slow
from endsahead.blocks import block_stocks, plan_for
from endsahead.library import kinds_in, sort_of
from endsahead.making import kind_of_shape, least_stocks, shape_for, shapes_in, spent_by
from endsahead.reader import read_text
from endsahead.right import broken
from endsahead.spends import gives, kind_of, names_spent
from endsahead.stocks import taken
from endsahead.trees import is_block, is_expression
from endsahead.writing import names_stock, new_names, written, written_plan
from authors import chance_library, rich_library
from libraries import ASK, KNOW
from samples import ALL

LETTERS = list("abcdefghijklmnopqrstuvwxyz")
NAMES = (("x", "tok"), ("i", "ink"), ("y", "tok"), ("p", "pair"), ("j", "ink"), ("z", "tok"), ("n", "num"), ("q", "pair"))


def names_for(stock, others=()):
    """Return names that are just a stock."""
    found = [(f"n{kind}{at}", kind) for kind, count in stock for at in range(count)]
    return tuple([*others, *found])


def seen_with(declarations, names):
    arms = [arm for declared in declarations if declared[0] == "choice" for arm, _ in declared[2]]
    return [*[declared[1] for declared in declarations], *arms, "f", *[name for name, _ in names]]


class TheExample(unittest.TestCase):

    def test_example(self):
        use = ("call", "use", (("take", "p"), ("take", "p")))
        told = ("let", "p", ("call", "know", (("take", "k"),)), ("give", use))
        block = written_plan(KNOW, told, (("a", "k"),), ["k", "p", "q", "know", "use", "f", "a"])
        self.assertEqual(block, (("let", "b", "p", ("call", "know", (("name", "a"),))), ("give", ("call", "use", (("name", "b"), ("name", "b"))))))
        names = (("x", "k"), ("y", "p"), ("z", "k"))
        self.assertEqual(names_stock(KNOW, names), (("k", 2), ("p", 1)))
        self.assertEqual(written(KNOW, ("call", "know", (("take", "k"),)), names), (("call", "know", (("name", "z"),)), (("x", "k"), ("y", "p"))))
        self.assertEqual(new_names(["a", "c"], 3), ("b", "d", "e"))


class NamesStock(unittest.TestCase):

    def test_names(self):
        self.assertEqual([names_stock(ALL, ()), names_stock(ALL, NAMES[6:7])], [(), ()])
        self.assertEqual(names_stock(ALL, NAMES), (("ink", 1), ("pair", 2), ("tok", 3)))


class Written(unittest.TestCase):

    def test_the_last_name_of_a_kind_first(self):
        self.assertEqual(written(ALL, ("take", "tok"), NAMES), (("name", "z"), (*NAMES[:5], *NAMES[6:])))
        burn = ("call", "burn", (("take", "tok"), ("call", "burn", (("take", "tok"), ("num",)))))
        tree, left = written(ALL, burn, NAMES)
        self.assertEqual(tree, ("call", "burn", (("name", "z"), ("call", "burn", (("name", "y"), ("num", 0))))))
        self.assertEqual(left, (("x", "tok"), ("i", "ink"), ("p", "pair"), ("j", "ink"), ("n", "num"), ("q", "pair")))

    def test_plain_names_stay(self):
        page = ("record", "page", (("take", "ink"), ("truth",), ("num",)))
        self.assertEqual(written(ALL, page, NAMES), (("record", "page", (("name", "j"), ("truth", True), ("num", 0))), NAMES))
        mint = ("call", "mint", (("take", "ink"), ("field", ("take", "pair"), "right")))
        wanted = ("call", "mint", (("name", "j"), ("field", ("name", "q"), "right")))
        self.assertEqual(written(ALL, mint, NAMES), (wanted, NAMES[:-1]))

    def test_each_sort(self):
        one = ("arm", "one", ("record", "pair", (("take", "tok"), ("num",))))
        shapes = {
            ("num",): ("num", 0), ("truth",): ("truth", True), ("arm", "none", None): ("name", "none"), ("call", "ask", ()): ("call", "ask", ()),
            one: ("call", "one", (("record", "pair", (("name", "z"), ("num", 0))),)), ("field", ("take", "pair"), "left"): ("field", ("name", "q"), "left"),
            ("record", "far", (("arm", "none", None),)): ("record", "far", (("name", "none"),)),
            ("field", ("record", "far", (one,)), "within"): ("field", ("record", "far", (("call", "one", (("record", "pair", (("name", "z"), ("num", 0))),)),)), "within"),
        }
        for shape, tree in shapes.items():
            self.assertEqual(written(ALL, shape, NAMES)[0], tree)

    def test_from_left_to_right(self):
        head = read_text("once k; plain p; record r { a: k, b: p, c: k } given f(k, r, k): p; given g(k): p;")
        names = tuple((name, "k") for name in "abcdef") + (("u", "p"),)
        shape = ("call", "f", (("take", "k"), ("record", "r", (("take", "k"), ("call", "g", (("take", "k"),)), ("take", "k"))), ("take", "k")))
        self.assertEqual(names_spent(head, dict(names), written(head, shape, names)[0]), ("f", "e", "d", "c", "b"))
        self.assertEqual(written(head, shape, names)[1], (("a", "k"), ("u", "p")))

    def test_shapes_by_chance(self):
        for seed in range(80):
            declarations = rich_library(seed)
            ex = least_stocks(declarations)
            for kind in kinds_in(declarations):
                for member in ex[kind]:
                    names = names_for(member, tuple((name + "x", held) for name, held in names_for(ex[kind][0])))
                    shape = shape_for(declarations, kind, member)
                    tree, left = written(declarations, shape, names)
                    self.assertIs(is_expression(tree), True)
                    self.assertEqual(kind_of(declarations, dict(names), tree), kind_of_shape(declarations, shape))
                    spent = names_spent(declarations, dict(names), tree)
                    self.assertEqual([len(set(spent)), left], [len(spent), tuple(pair for pair in names if pair[0] not in spent)])
                    self.assertEqual(names_stock(declarations, left), taken(declarations, names_stock(declarations, names), spent_by(declarations, shape)))


class NewNames(unittest.TestCase):

    def test_behind_z(self):
        self.assertEqual([new_names([], 0), new_names((), 2), new_names(["b"], 2), new_names(("a", "b", "z"), 1)], [(), ("a", "b"), ("a", "c"), ("c",)])
        self.assertEqual(new_names(LETTERS, 3), ("a1", "b1", "c1"))
        self.assertEqual(new_names([*LETTERS[:-1], "a1"], 3), ("z", "b1", "c1"))
        self.assertEqual(new_names((), 54)[24:], ("y", "z", *[letter + "1" for letter in LETTERS], "a2", "b2"))

    def test_behind_z1(self):
        first = [letter + "1" for letter in LETTERS]
        self.assertEqual([new_names([*LETTERS, *first], 1), new_names([*LETTERS, *first[:-1]], 2)], [("a2",), ("z1", "a2")])
        many = new_names((), 300)
        self.assertEqual([len(set(many)), many[26 * 10], many[-1]], [300, "a10", "n11"])
        self.assertTrue(all(sort_of((), name) is None for name in many))

    def test_names_that_are_none(self):
        self.assertEqual(new_names(["if", "num", "A", "q", ""], 1), ("a",))


class WrittenPlan(unittest.TestCase):

    def test_let(self):
        self.assertEqual(written_plan(KNOW, ("give", ("num",)), (), ()), (("give", ("num", 0)),))
        plan = ("let", "k", ("take", "k"), ("let", "k", ("take", "k"), ("give", ("take", "k"))))
        wanted = (("let", "a", "k", ("name", "y")), ("let", "b", "k", ("name", "a")), ("give", ("name", "b")))
        self.assertEqual(written_plan(KNOW, plan, (("x", "k"), ("y", "k")), ("x", "y")), wanted)
        self.assertEqual(written_plan(KNOW, plan, (("a", "k"),), ("a",))[0], ("let", "b", "k", ("name", "a")))

    def test_open(self):
        head = read_text("once k; plain p; record r { a: k, b: num, c: k } given f(k, k): p;")
        plan = ("open", "r", ("take", "r"), ("give", ("call", "f", (("take", "k"), ("take", "k")))))
        wanted = (("open", "r", ("b", "d", "e"), ("name", "x")), ("give", ("call", "f", (("name", "e"), ("name", "b")))))
        self.assertEqual(written_plan(head, plan, (("x", "r"),), ["a", "c", "x"]), wanted)

    def test_match(self):
        head = read_text("once k; plain p; choice v { x: k, y, z: num, w: p } given end(k): p;")
        end = ("give", ("call", "end", (("take", "k"),)))
        plan = ("match", "v", ("take", "v"), (end, ("let", "k", ("take", "k"), end), end, ("give", ("take", "p"))))
        block = written_plan(head, plan, (("a", "k"), ("m", "v")), ("a", "m", "c"))
        give_a, give_b = ("give", ("call", "end", (("name", "a"),))), ("give", ("call", "end", (("name", "b"),)))
        cases = (("x", "b", (give_b,)), ("y", None, (("let", "b", "k", ("name", "a")), give_b)), ("z", "b", (give_a,)), ("w", "b", (("give", ("name", "b")),)))
        self.assertEqual(block, (("match", "v", ("name", "m"), cases),))

    def test_names_of_one_case_are_not_those_of_another_one(self):
        give = ("give", ("take", "k"))
        again = ("match", "v", ("call", "ask", ()), (give, ("let", "k", ("take", "k"), give)))
        block = written_plan(ASK, ("match", "v", ("call", "ask", ()), (again, again)), (("s", "k"),), ["s"])
        inner = block[0][3]
        self.assertEqual([inner[0][:2], inner[1][:2]], [("yes", "a"), ("no", None)])
        self.assertEqual([inner[0][2][0][3][0][:2], inner[1][2][0][3][0][:2]], [("yes", "b"), ("yes", "a")])
        self.assertEqual([inner[0][2][0][3][1][2], inner[1][2][0][3][1][2]], [(("let", "b", "k", ("name", "a")), ("give", ("name", "b"))), (("let", "a", "k", ("name", "s")), ("give", ("name", "a")))])

    def test_what_is_written_is_right(self):
        words = set()
        for seed in range(150):
            declarations = rich_library(seed) if seed % 3 else chance_library(seed)
            for kind in ("num", *kinds_in(declarations)):
                w = block_stocks(declarations, kind)
                for member in w:
                    names = names_for(member, (("extra", "num"),))
                    plan = plan_for(declarations, kind, names_stock(declarations, names))
                    block = written_plan(declarations, plan, names, seen_with(declarations, names))
                    self.assertIs(is_block(block), True)
                    self.assertIs(gives(block), True)
                    self.assertIsNone(broken((*declarations, ("def", "f", names, kind, block))), (seed, kind, member))
                    words.add(plan[0])
        self.assertEqual(words, {"give", "let", "open", "match"})

    def test_arguments_stay(self):
        names, seen = (("a", "k"),), ["a"]
        plan = ("let", "k", ("take", "k"), ("give", ("take", "k")))
        self.assertEqual(written_plan(KNOW, plan, names, seen), written_plan(KNOW, plan, names, tuple(seen)))
        self.assertEqual([names, seen], [(("a", "k"),), ["a"]])

    def test_long_and_deep_plans(self):
        plan = ("give", ("take", "k"))
        for _ in range(150):
            plan = ("let", "k", ("take", "k"), plan)
        self.assertIsNone(broken((*KNOW, ("def", "f", (("s", "k"),), "k", written_plan(KNOW, plan, (("s", "k"),), seen_with(KNOW, (("s", "k"),)))))))
        head = read_text("once k; once l; choice v { x: k } given ask(k): v;")
        deep = ("give", ("take", "k"))
        for _ in range(150):
            deep = ("match", "v", ("call", "ask", (("take", "k"),)), (deep,))
        block = written_plan(head, deep, (("s", "k"),), seen_with(head, (("s", "k"),)))
        self.assertIsNone(broken((*head, ("def", "f", (("s", "k"),), "k", block))))

    def test_shapes_in(self):
        shape = ("call", "f", (("take", "k"), ("arm", "a", ("num",)), ("field", ("record", "r", (("truth",),)), "b")))
        self.assertEqual([inner[0] for inner in shapes_in(shape)], ["call", "take", "arm", "num", "field", "record", "truth"])
        self.assertEqual(slow.once_of(KNOW), {"k": True, "p": False, "q": False})


if __name__ == "__main__":
    unittest.main()
