"""[27] and [28]: which rows can be read word by word, and what is there at their end."""

import random
import unittest

from endsahead.errors import NoTree
from endsahead.reader import read_program
from endsahead.right import broken
from endsahead.shower import row_of
from endsahead.stands import can_be_read, first_unread, function_at, kinds_to_come, names_at, stock_at
from endsahead.words import cut
from authors import right_program
from grammar import row_by_chance

HEAD = (
    "plain ink; once tok; record pair { left: tok, right: num } record page { at: ink, sure: truth } record far { near: pair, by: page } "
    "choice some { none, one: pair } choice bit { yes: num, no } given mint(ink, num): tok; given ask(): truth; given use(tok): num; "
    "given both(tok, tok): pair; "
)
PARAMETERS = "(i: ink, t: tok, s: tok, p: pair, g: page, r: far, v: some, n: num, b: truth)"
FUNCTION = HEAD + f"def f{PARAMETERS}: num {{ "


def row(text):
    """Return the row of a text behind HEAD and the begin of a function."""
    return cut(FUNCTION + text)


def reads(text):
    return can_be_read(row(text))


def words_that_can_stand(text, words):
    """Return those of some words that can stand behind a text."""
    return [word for word in words.split(" ") if can_be_read((*row(text), word))]


class TheExample(unittest.TestCase):

    def setUp(self):
        head = "once k ; plain q ; given f ( k , k ) : q ; record p { a : k , n : num } "
        self.one = tuple((head + "def g ( x : k , y : k , z : p ) : q { give f ( x ,").split(" "))
        self.two = tuple((head + "def g ( x : k ) : q { repeat 2 { let b : truth = 1 +").split(" "))

    def test_example(self):
        one, two = self.one, self.two
        self.assertEqual([can_be_read(one), function_at(one), kinds_to_come(one), stock_at(one)], [True, "g", ("k",), (("k", 1), ("p", 1))])
        self.assertEqual(names_at(one), {"x": ("k", False), "y": ("k", True), "z": ("p", True)})
        found = [can_be_read((*one, word)) for word in ("x", "y", "z", "(", "3", "f", ")")]
        self.assertEqual(found, [False, True, True, True, False, False, False])
        self.assertEqual([first_unread((*one, "z", ".", "n")) == len(one) + 2, kinds_to_come((*one, "z", ".")), stock_at((*one, "z"))], [True, (), (("k", 1),)])
        found = [kinds_to_come(two), stock_at(two), can_be_read((*two, "x")), can_be_read((*two, "1", "<")), can_be_read((*two, "1", ";"))]
        self.assertEqual(found, [("num",), (), False, True, False])


class Heads(unittest.TestCase):

    def test_what_can_be_read(self):
        texts = ["", "plain", "plain a", "plain a ;", "once a ; plain b ;", "record r { a", "record r { a : num", "record r { r : num , once1 : truth }", "choice c { a", "choice c { a , b : num }"]
        texts += ["choice c { a : num ,", "given g (", "given g ( )", "given g ( num , truth ) : num", "given g ( ) : num ; plain a", "def f (", "def f ( )", "def f ( a : num ,", "def f ( ) : num {"]
        texts += ["plain k ; record r { k : k , a : k }", "record a { x : num } record b { x : a , a : num }", "plain k ; once l ; given g ( k , l ) : k ; def f ( x : k ) : l"]
        for text in texts:
            self.assertIs(can_be_read(tuple(text.split())), True, text)

    def test_what_cannot_be_read(self):
        texts = {
            "a": 0, "plain plain": 1, "plain a ; b": 3, "plain a ; once a": 4, "record r { }": 3, "record r { a : r": 5, "record r { a : num , a": 7, "record r { a : q": 5, "choice c { c": 3,
            "choice c { a , a": 5, "choice c { a : c": 5, "choice c { }": 3, "plain a ; choice c { a": 6, "plain a ; given a": 4, "given g ( g": 3, "given g ( ) : q": 5, "given g ( num ) num": 5,
            "given g ( num , )": 5, "def f ( f": 3, "def f ( num": 3, "def f ( a : num , a": 7, "def f ( a : q": 5, "def f ( ) : f": 5, "def f ( ) : num ;": 6, "choice c { a } plain a": 6,
            "choice c { a } def f ( a": 8, "plain a ; plain b ; record a": 7, "record r { a : num } given r": 8, "given g ( ) : num ; def g": 8, "choice c { a : num } once a": 8, "num": 0,
            "record r { a : a": 5, "plain k ; def f ( k": 6, "plain k ; def f ( x : k , x": 10, "once 1": 1, "record r { a , b": 4, "choice c { a : num : num": 6, "1": 0, "{": 0,
        }
        for text, wanted in texts.items():
            self.assertEqual(first_unread(tuple(text.split())), wanted, text)
            self.assertIs(can_be_read(tuple(text.split())), False)

    def test_kinds_only_of_declarations_that_have_ended(self):
        texts = {"plain k ; record r { a :": "num truth k", "plain k ; choice c { a :": "num truth k", "plain k ; choice c { a , b ; record r { c :": "", "once k ; given g (": "num truth k )"}
        for text, wanted in texts.items():
            found = [word for word in ("num", "truth", "k", "r", "c", "a", "g", ")") if can_be_read((*text.split(), word))]
            self.assertEqual(found, wanted.split(), text)

    def test_functions_one_behind_another(self):
        ahead = FUNCTION + "let a : num = n ; give a ; } "
        self.assertIs(can_be_read(cut(ahead + "def g(a: num, n: tok): num { let t: num = f(")), True)
        self.assertIs(can_be_read(cut(ahead + "def f")), False)
        self.assertIs(can_be_read(cut(ahead + "plain a; once n;")), True)
        self.assertIs(can_be_read(cut(FUNCTION + "give f")), False)


class Statements(unittest.TestCase):

    def test_first_words(self):
        self.assertEqual(words_that_can_stand("", "let open if match repeat give else } { ; plain def n 1"), "let open if match repeat give".split())
        self.assertEqual(words_that_can_stand("if b {", "let give } else"), ["let", "give", "}"])
        self.assertEqual(words_that_can_stand("if b { }", "let give } else if"), ["let", "give", "else", "if"])
        self.assertEqual(words_that_can_stand("if b { if b { }", "let give } else"), ["let", "give", "}", "else"])
        self.assertEqual(words_that_can_stand("if b { } else { }", "let give } else"), ["let", "give"])
        self.assertEqual(words_that_can_stand("repeat n { }", "let give } else"), ["let", "give"])

    def test_behind_a_statement_that_gives(self):
        for text in ["give 1 ;", "if b { give 1 ; } else { give 1 ; }", "match some v { none { give 1 ; } one x { give 2 ; } }"]:
            self.assertEqual(words_that_can_stand(text, "let open if match repeat give } else ;"), ["}"], text)
        self.assertEqual(words_that_can_stand("if b { give 1 ;", "let give } else"), ["}"])
        self.assertEqual(words_that_can_stand("if b { give 1 ; }", "let give } else"), ["let", "give", "else"])
        self.assertEqual(words_that_can_stand("repeat 1 { give 1 ;", "let give }"), ["}"])
        self.assertEqual(words_that_can_stand("repeat 1 { give 1 ; }", "let give }"), ["let", "give"])
        self.assertEqual(words_that_can_stand("if b { give 1 ; } else { }", "let give }"), ["let", "give"])
        self.assertEqual(words_that_can_stand("if b { } else { give 1 ; }", "let give }"), ["let", "give"])
        self.assertEqual(words_that_can_stand("match some v { none { give 1 ; } one x { }", "let give } none one"), ["}"])
        self.assertEqual(words_that_can_stand("match some v { none { give 1 ; } one x { } }", "let give }"), ["let", "give"])
        self.assertEqual(words_that_can_stand("if b { if b { give 1 ; } else { give 1 ; }", "let give } else"), ["}"])

    def test_the_end_of_a_function(self):
        self.assertEqual(words_that_can_stand("give 1 ; }", "plain once record choice given def let } ;"), "plain once record choice given def".split())
        self.assertIs(reads("let a : num = 1 ; }"), False)

    def test_let(self):
        self.assertEqual(words_that_can_stand("let", "a x1 n f tok none pair num 1 left :"), ["a", "x1", "left"])
        self.assertEqual(words_that_can_stand("let a :", "num truth ink tok pair some one f q a"), "num truth ink tok pair some".split())
        self.assertEqual(words_that_can_stand("let a", ": = ;"), [":"])
        self.assertEqual(words_that_can_stand("let a : num", ": = ;"), ["="])
        self.assertIs(reads("let a : num = a"), False)
        self.assertIs(reads("let a : num = 1 ; let a"), False)
        self.assertIs(reads("let a : num = 1 ; let c : num = a ; if b { let d : num = a ; } let d"), True)
        self.assertIs(reads("if b { let a : num = 1 ; } let c : num = a"), False)

    def test_open(self):
        self.assertEqual(words_that_can_stand("open", "pair page far some tok q f num {"), ["pair", "page", "far"])
        self.assertEqual(words_that_can_stand("open pair", "{ a ="), ["{"])
        self.assertEqual(words_that_can_stand("open pair {", "a n f left none }"), ["a", "left"])
        self.assertEqual(words_that_can_stand("open pair { a", ", } ="), [","])
        self.assertEqual(words_that_can_stand("open pair { a ,", "a c t }"), ["c"])
        self.assertEqual(words_that_can_stand("open pair { a , c", ", } ="), ["}"])
        self.assertEqual(words_that_can_stand("open pair { a , c } =", "p a t r v pair both ( ;"), ["p", "r", "pair", "both", "("])
        self.assertEqual(words_that_can_stand("open pair { a , c } = p ; let d : tok =", "a c t p"), ["a", "t"])

    def test_match(self):
        self.assertEqual(words_that_can_stand("match", "some bit pair none q v {"), ["some", "bit"])
        self.assertEqual(words_that_can_stand("match some", "v none one p { ( r"), ["v", "none", "one", "("])
        self.assertEqual(words_that_can_stand("match some v {", "none one } yes a"), ["none"])
        self.assertEqual(words_that_can_stand("match some v { none", "{ a }"), ["{"])
        self.assertEqual(words_that_can_stand("match some v { none { }", "none one } a"), ["one"])
        self.assertEqual(words_that_can_stand("match some v { none { } one", "{ a t one f left"), ["a", "left"])
        self.assertEqual(words_that_can_stand("match some v { none { } one a", "{ a }"), ["{"])
        self.assertEqual(words_that_can_stand("match some v { none { } one a { }", "none one } let"), ["}"])
        self.assertEqual(words_that_can_stand("match some v { none { } one a { let", "a c"), ["c"])
        self.assertEqual(words_that_can_stand("match some v { none { } one a { } }", "let } else"), ["let"])
        self.assertEqual(words_that_can_stand("match some v", "{ . + ;"), ["{"])


class Expressions(unittest.TestCase):

    def test_operands(self):
        words = "1 true i t p g r v n b pair page far none one yes mint ask use both ( q f left tok some ; )"
        texts = {
            "give": "1 p r n pair far use both (", "let x : truth =": "1 true p g r n b pair page far ask use both (", "let x : ink =": "i g r page far (",
            "let x : tok =": "t p r pair far mint both (", "let x : pair =": "p r pair far both (", "let x : page =": "g r page far (", "let x : some =": "v none one (",
            "let x : bit =": "yes (", "if": "1 true p g r n b pair page far ask use both (", "repeat": "1 p r n pair far use both (", "match some": "v none one (", "open far { x , y } =": "r far (",
        }
        for text, wanted in texts.items():
            self.assertEqual(words_that_can_stand(text, words), wanted.split(), text)

    def test_behind_operators_and_in_brackets(self):
        words = "1 true i t p g r v n b pair page ask use both ("
        texts = {
            "give 1 +": "1 p r n pair use both (", "if 1 <": "1 p r n pair use both (", "if 1 < 2 +": "1 p r n pair use both (", "if b and": "1 true p g r n b pair page ask use both (",
            "give (": "1 p r n pair use both (", "if (": "1 true p g r n b pair page ask use both (", "let x : tok = (": "t p r pair both (", "if ( (": "1 true p g r n b pair page ask use both (",
            "if 1 < (": "1 p r n pair use both (", "give use (": "t p r pair both (", "give mint (": "", "let x : tok = mint (": "i g r page (", "let x : tok = mint ( i ,": "1 p r n pair use both (",
            "let x : page = page { i ,": "1 true p g r n b pair page ask use both (", "let x : some = one (": "p r pair both (", "open pair { x , y } = pair {": "t p r pair both (",
        }
        for text, wanted in texts.items():
            self.assertEqual(words_that_can_stand(text, words), wanted.split(), text)

    def test_brackets_behind_names(self):
        words = "( { . + < and ; , )"
        texts = {
            "give use": "(", "give both": "(", "if ask": "(", "let x : some = one": "(", "let x : pair = pair": "{", "let x : some = none": ";", "let x : tok = t": ";", "let x : ink = i": ";",
            "give n": "+ ;", "give p": ".", "if n": "+ <", "if b": "{ and", "let x : pair = p": ";", "if p": ".", "give pair": "{", "match some v": "{", "match some none": "{", "repeat n": "{ +",
        }
        for text, wanted in texts.items():
            self.assertEqual(words_that_can_stand(text, words), wanted.split(), text)

    def test_fields_of_fields(self):
        fields = "near by left right at sure n"
        texts = {
            "give r .": "near", "give r . near .": "right", "let x : tok = r .": "near", "let x : tok = r . near .": "left", "let x : ink = r .": "by", "let x : ink = r . by .": "at",
            "if r .": "near by", "if r . by .": "sure", "if r . near .": "right", "let x : pair = r .": "near", "let x : page = r .": "by", "give p .": "right", "if g .": "sure", "if p .": "right",
        }
        for text, wanted in texts.items():
            self.assertEqual(words_that_can_stand(text, fields), wanted.split(), text)
        behind = {
            "give r . near": ".", "give r . near . right": "+ ;", "if r . near . right": "+ <", "if g . sure": "and {", "let x : far = r": ";", "let x : pair = r . near": ";",
            "let x : ink = r . by": ".", "let x : ink = g . at": ";", "give both ( t , s )": ".", "give both ( t , s ) . right": "+ ;", "give pair { t , 1 }": ".", "give ( r ) . near": ".",
        }
        for text, wanted in behind.items():
            self.assertEqual(words_that_can_stand(text, ". + < and ; { ( ,"), wanted.split(), text)

    def test_operators(self):
        texts = {
            "give 1": "+ ;", "give 1 + 2": "+ ;", "give 1 + n": "+ ;", "give 1 + p": ".", "give 1 + p . right": "+ ;", "if 1": "+ <", "if 1 + 2": "+ <", "if 1 < 2": "+ and {", "if 1 < 2 + 3": "+ and {",
            "if 1 < p": ".", "if true": "and {", "if true and b": "and {", "if b and 1": "+ <", "if b and 1 < 2": "+ and {", "if b and 1 + 2": "+ <", "if b and 1 + 2 < n": "+ and {", "if b and p": ".",
            "let x : truth = b": "and ;", "let x : truth = 1": "+ <", "let x : truth = 1 < 2": "+ and ;", "repeat 1": "+ {", "repeat 1 + 2": "+ {", "if ask ( )": "and {", "if 1 < 2 and b": "and {",
        }
        for text, wanted in texts.items():
            self.assertEqual(sorted(words_that_can_stand(text, "+ < and ; { . )")), sorted(wanted.split()), text)

    def test_brackets(self):
        texts = {
            "give ( 1": "+ )", "give ( 1 )": "+ ;", "give ( 1 + 2": "+ )", "give ( p": ") .", "give ( p )": ".", "give ( p . right )": "+ ;", "give ( p ) . right": "+ ;", "if ( 1": "+ < )", "if ( 1 )": "+ <",
            "if ( 1 ) < 2": "+ and {", "if ( 1 < 2 )": "and {", "if ( 1 < 2": "+ and )", "if ( b": "and )", "if ( b )": "and {", "if ( b and b )": "and {", "if ( 1 + 2 )": "+ <", "if ( p": ". )", "if ( p )": ".",
            "if ( p . right": "+ < )", "if ( p . right )": "+ <", "if 1 < ( 2": "+ )", "if 1 < ( 2 )": "+ and {", "let x : tok = ( t": ")", "let x : tok = ( t )": ";", "let x : tok = ( p )": ".", "let x : tok = ( p": ". )",
            "if ( ( 1 ) + 2": "+ < )", "if ( b and 1": "+ <", "if ( b and 1 )": "", "if ( b and 1 + 2 )": "", "if ( b and 1 < 2 + n )": "and {", "if ( b and b and 1": "+ <", "if ( b and b and 1 + n": "+ <", "if ( b and p )": "", "if ( 1 < p )": "", "give ( 1 + p )": "", "give ( ( 1": "+ )", "give ( ( 1 ) ) + ( 2": "+ )", "if ( ( r ) . near )": ".", "if ( r . by )": ".",
        }
        for text, wanted in texts.items():
            if wanted:
                self.assertEqual(sorted(words_that_can_stand(text, "+ < and ; { . )")), sorted(wanted.split()), text)
            else:
                self.assertIs(reads(text), False, text)

    def test_arguments_and_parts(self):
        words = ", ) } ; + ."
        texts = {
            "give use ( t": ")", "let x : tok = mint ( i": ",", "let x : tok = mint ( i , 1": ") +", "let x : pair = both ( t": ",", "let x : pair = both ( t , s": ")", "let x : pair = pair { t": ",",
            "let x : pair = pair { t , 1": "+ }", "let x : page = page { i , true": "}", "let x : some = one ( p": ")", "let x : bit = yes ( 1": ") +", "give use ( mint ( i , 1 )": ")", "give use ( mint ( i , 1": ") +",
            "give use ( p": ".", "give use ( p . left": ")", "let x : some = one ( r": ".", "let x : some = one ( both ( t , s )": ")", "give use ( ( t )": ")", "give use ( ( t": ")", "give use ( t )": "+ ;",
        }
        for text, wanted in texts.items():
            self.assertEqual(sorted(words_that_can_stand(text, words)), sorted(wanted.split()), text)
        for text in ["if ask ( 1", "give use ( )", "give use ( t ,", "let x : tok = mint ( i )", "let x : pair = pair { }", "let x : some = one ( )", "let x : some = none (", "let x : pair = pair (", "give use {"]:
            self.assertIs(reads(text), False, text)
        self.assertIs(reads("if ask ( ) {"), True)


class Spending(unittest.TestCase):

    def once(self, text):
        return "".join(words_that_can_stand(text + " let x9 : tok =", "t s p"))

    def test_on_a_way(self):
        texts = {
            "": "tsp", "let x : tok = t ;": "sp", "let x : tok = t ; let y : num = p . right ;": "s", "let x : ink = i ; let y : ink = i ;": "tsp", "if use ( t ) < 1 {": "sp",
            "if b { let x : tok = t ;": "sp", "if b { let x : tok = t ; }": "sp", "if b { let x : tok = t ; } else {": "tsp", "if b { let x : tok = t ; } else { let x : tok = s ; }": "p",
            "if b { give use ( t ) ; }": "tsp", "if b { give use ( t ) ; } else {": "tsp", "if b { give use ( t ) ; } else { }": "tsp", "if b { let x : tok = t ; } else { give use ( s ) ; }": "sp",
            "if b { if b { let x : tok = t ; } else { let x : tok = s ; }": "p", "if b { if b { let x : tok = t ; } else { let x : tok = s ; } give 1 ; }": "tsp", "if use ( t ) < 1 { } else {": "sp",
            "match some v { none {": "tsp", "match some v { none { let x : tok = t ; } one y {": "tsp", "match some v { none { let x : tok = t ; } one y { let z : tok = s ; } }": "p",
            "match some v { none { give use ( t ) ; } one y { let z : tok = s ; } }": "tp", "match some one ( p ) { none {": "ts", "match some v { none { let x : tok = t ; } one y { give 1 ; } }": "sp",
        }
        for text, wanted in texts.items():
            self.assertEqual(self.once(text), wanted, text)

    def test_within_one_expression(self):
        self.assertEqual(words_that_can_stand("let x : pair = both ( t ,", "t s p"), ["s", "p"])
        self.assertEqual(words_that_can_stand("give use ( t ) + use (", "t s p"), ["s", "p"])
        self.assertEqual(words_that_can_stand("if use ( t ) < use ( s ) and use ( p . left ) <", "p n r"), ["n", "r"])
        self.assertEqual(words_that_can_stand("give ( ( p ) . right ) +", "p n r"), ["n", "r"])

    def test_repeat(self):
        texts = {
            "repeat 1 {": "", "repeat use ( t ) {": "", "repeat use ( t ) { }": "sp", "repeat 1 { }": "tsp", "repeat 1 { if b {": "", "repeat 1 { if b { } else {": "", "repeat 1 { match some none { none {": "",
            "repeat 1 { repeat 1 { } }": "tsp",
        }
        for text, wanted in texts.items():
            self.assertEqual(self.once(text), wanted, text)
        made = "repeat 1 { let a : tok = mint ( i , 1 ) ;"
        self.assertEqual(words_that_can_stand(made + " let c : tok =", "a t"), ["a"])
        self.assertEqual(words_that_can_stand(made + " if b { let c : tok =", "a t"), ["a"])
        self.assertEqual(words_that_can_stand(made + " repeat", "a n t use"), ["n", "use"])
        self.assertEqual(words_that_can_stand(made + " repeat use (", "a t"), ["a"])
        self.assertEqual(words_that_can_stand(made + " repeat 1 { let c : tok =", "a t mint"), ["mint"])
        self.assertEqual(words_that_can_stand(made + " repeat 1 { } let c : tok =", "a t mint"), ["a", "mint"])
        self.assertEqual(words_that_can_stand(made + " let c : tok = a ; let d : tok =", "a c"), ["c"])
        self.assertEqual(words_that_can_stand("repeat 1 { let c : num =", "n p r i"), ["n"])
        self.assertEqual(words_that_can_stand("repeat 1 { open pair { x , y } = pair { mint ( i , 1 ) , 1 } ; let c : tok =", "x t"), ["x"])
        self.assertEqual(words_that_can_stand("repeat 1 { match some one ( pair { mint ( i , 1 ) , 1 } ) { none { } one x { let c : pair =", "x p"), ["x"])

    def test_names_of_plain_kinds_may_be_used_again(self):
        self.assertIs(reads("let x : ink = i ; let y : ink = i ; repeat 1 { let z : ink = x ; repeat n { let w : num = n + n ; } }"), True)


class WholeRows(unittest.TestCase):

    def test_each_beginning_of_a_right_row_can_be_read(self):
        for seed in range(200):
            words, _ = row_by_chance(right_program(seed), random.Random(seed), 2)
            self.assertIsNone(first_unread(words), seed)
            if seed < 8:
                self.assertTrue(all(can_be_read(words[:many]) for many in range(len(words))))

    def test_a_whole_row_can_be_read_just_if_it_is_right(self):
        """Words of right rows are exchanged, left out and put in; so all rules are broken."""
        found = {}
        for seed in range(400):
            chance = random.Random(seed)
            program = right_program(seed, *chance.choice(((1, 2), (2, 3), (5, 4))))
            right = list(row_of(program))
            names = [at for at, word in enumerate(right) if word.isalnum() and word[0].isalpha()]
            for _ in range(25):
                words = list(right)
                for _ in range(chance.choice((1, 1, 2))):
                    at = chance.choice(names) if chance.random() < 0.6 else chance.randrange(len(right))
                    words[at:at + chance.randint(0, 1)] = [right[chance.choice(names)]] if chance.random() < 0.7 else chance.choice([[], [chance.choice(right)]])
                words = self.moved(chance, words) if chance.random() < 0.3 else words
                self.compare(tuple(words), found)
            self.compare(self.renamed(chance, right), found)
        self.assertEqual(sorted(word for word in found if word), ["arms", "give", "kind", "many", "name", "spent", "unknown"])

    def moved(self, chance, words):
        """Return words in which what stands from one `;` to the next one is put elsewhere behind a `;`."""
        ends = [at for at, word in enumerate(words) if word == ";"]
        if len(ends) < 3:
            return words
        at = chance.randrange(len(ends) - 1)
        piece, rest = words[ends[at] + 1:ends[at + 1] + 1], words[:ends[at] + 1] + words[ends[at + 1] + 1:]
        place = chance.choice([index for index, word in enumerate(rest) if word == ";"])
        return rest[:place + 1] + piece + (rest if chance.random() < 0.8 else words)[place + 1:]

    def renamed(self, chance, words):
        """Return words in which a name is another one of the same kind."""
        for _ in range(12):
            at = chance.randrange(len(words))
            seen = names_at(tuple(words[:at]))
            others = [name for name in seen if words[at] in seen and seen[name][0] == seen[words[at]][0] and name != words[at]]
            if others:
                return (*words[:at], chance.choice(others), *words[at + 1:])
        return tuple(words)

    def compare(self, words, found):
        try:
            rule = broken(read_program(words))
        except NoTree as error:
            unread = first_unread(words)
            if error.index < len(words):
                self.assertTrue(unread is not None and unread <= error.index, words)
            return
        self.assertIs(can_be_read(words), rule is None, (rule, words))
        key = None if rule is None else rule[1]
        found[key] = found.get(key, 0) + 1

    def test_no_longer_row_mends_it(self):
        for text in ["give t", "if b { give 1 ; let", "let a : num = b ;", "match some v { one", "repeat 1 { let a : tok = t"]:
            first = first_unread(row(text))
            self.assertIsNotNone(first)
            for more in ["", ";", "; }", ") ;", "} give 1 ; }", "plain q ;"]:
                self.assertEqual(first_unread(row(text + " " + more)), first)
                self.assertIs(reads(text + " " + more), False)

    def test_long_rows(self):
        words = (*row(""), *cut("if b { } " * 60 + "give 1; }"))
        self.assertEqual([can_be_read(words), first_unread((*words, "}"))], [True, len(words)])
        deep = (*row(""), *["if", "b", "{"] * 400, *["}"] * 400)
        self.assertEqual([can_be_read(deep), first_unread((*deep, "}"))], [True, len(deep)])
        brackets = (*row("give"), *["("] * 700, "n", *[")"] * 700)
        self.assertEqual([can_be_read(brackets), first_unread((*brackets, ")"))], [True, len(brackets)])


class WhatIsThere(unittest.TestCase):

    def seen(self, text):
        """Return the names that are not parameters, in order, with a ! ahead of those that cannot stand there."""
        return " ".join(("" if free else "!") + name for name, (_, free) in names_at(row(text)).items() if name not in "itspgrvnb")

    def spent(self, text):
        return "".join(name for name, (_, free) in names_at(row(text)).items() if name in "itspgrvnb" and not free)

    def test_function_at(self):
        texts = {"": None, "def": None, "def f": "f", "def f (": "f", "def f ( a : num ) : num {": "f", "def f ( ) : num { give 1 ;": "f", "def f ( ) : num { give 1 ; }": None, "given f": None, "given f ( ) : num ;": None}
        texts.update({"def f ( ) : num { give 1 ; } def": None, "def f ( ) : num { give 1 ; } def g": "g", "plain f": None, "def f ( ) : num { if true { }": "f", "def f ( ) : num { repeat 1 {": "f"})
        for text, wanted in texts.items():
            self.assertEqual(function_at(tuple(text.split())), wanted, text)

    def test_parameters(self):
        head = "once k ; plain q ; def f ("
        texts = {"": {}, "x": {}, "x :": {}, "x : k": {"x": ("k", True)}, "x : k , y :": {"x": ("k", True)}, "x : k , y : num ) :": {"x": ("k", True), "y": ("num", True)}}
        for text, wanted in texts.items():
            self.assertEqual(names_at(tuple((head + " " + text).split())), wanted, text)
        self.assertEqual(stock_at(tuple((head + " x : k , y : k , z : q , w : q , n : num ) : k").split())), (("k", 2), ("q", 1)))

    def test_no_function(self):
        for text in ["", "once k ;", "record r { a : num", "given f ( num", "def", "def f", "def f ( ) : num { give 1 ; }", "def f ( a : num ) : num { let c : num = a ; give c ; } plain"]:
            words = tuple(text.split())
            self.assertEqual([names_at(words), stock_at(words), kinds_to_come(words)], [{}, (), ()], text)

    def test_names_of_let_and_open(self):
        texts = {
            "let x": "", "let x : tok = t": "", "let x : tok = t ;": "x", "let x : tok = t ; let y : tok = x": "!x", "let x : tok = t ; let y : tok = x ;": "!x y", "open pair { x , y": "",
            "open pair { x , y } = p": "", "open pair { x , y } = p ;": "x y", "open pair { x , y } = p ; give use ( x": "!x y", "if b { let x : num = 1 ;": "x", "if b { let x : num = 1 ; }": "",
            "if b { let x : num = 1 ; } else {": "", "repeat 1 { let x : num = 1 ;": "x", "repeat 1 { let x : num = 1 ; }": "", "let x : tok = t ; repeat 1 {": "!x", "let x : tok = t ; repeat 1 { }": "x",
            "let x : num = 1 ; repeat 1 {": "x", "repeat 1 { let x : tok = mint ( i , 1 ) ; repeat 1 {": "!x", "repeat 1 { let x : tok = mint ( i , 1 ) ; repeat 1 { }": "x",
        }
        for text, wanted in texts.items():
            self.assertEqual(self.seen(text), wanted, text)

    def test_names_of_cases(self):
        texts = {
            "match some v {": "", "match some v { none {": "", "match some v { none { } one": "", "match some v { none { } one x": "x", "match some v { none { } one x {": "x",
            "match some v { none { } one x { let y : pair = x ;": "!x y", "match some v { none { } one x { }": "", "match some v { none { } one x { } }": "", "match bit yes ( 1 ) { yes x": "x",
            "match bit yes ( 1 ) { yes x { } no": "",
        }
        for text, wanted in texts.items():
            self.assertEqual(self.seen(text), wanted, text)

    def test_what_is_spent(self):
        texts = {
            "": "", "give use ( t": "t", "give use ( t )": "t", "let x : pair = both ( t , s": "st", "let x : num = p .": "p", "let x : num = ( p": "p", "if use ( t ) < 1 {": "t",
            "if b { let x : tok = t ;": "t", "if b { let x : tok = t ; }": "t", "if b { let x : tok = t ; } else": "", "if b { let x : tok = t ; } else { let x : tok = s ;": "s",
            "if b { let x : tok = t ; } else { let x : tok = s ; }": "st", "if b { give use ( t ) ;": "t", "if b { give use ( t ) ; }": "", "if b { give use ( t ) ; } else": "",
            "if use ( s ) < 1 { give use ( t ) ; }": "s", "if use ( s ) < 1 { give use ( t ) ; } else { give 1 ; }": "s", "repeat use ( t ) {": "prstv", "repeat use ( t ) { }": "t",
            "if b { let x : tok = t ; } let y : tok = s ;": "st", "if b { if b { let x : tok = t ; }": "t", "if b { if b { let x : tok = t ; } }": "t",
        }
        for text, wanted in texts.items():
            self.assertEqual(self.spent(text), wanted, text)

    def test_between_the_cases_of_a_match(self):
        texts = {
            "match some v": "v", "match some v {": "v", "match some v { none": "v", "match some v { none { let x : tok = t ;": "tv", "match some v { none { let x : tok = t ; }": "v",
            "match some v { none { let x : tok = t ; } one": "v", "match some v { none { let x : tok = t ; } one y": "v", "match some v { none { let x : tok = t ; } one y { let z : tok = s ;": "sv",
            "match some v { none { let x : tok = t ; } one y { let z : tok = s ; } }": "stv", "match some v { none { give use ( t ) ; } one y { give use ( s ) ; } }": "v",
            "match some v { none { give use ( t ) ; } one y { let z : tok = s ; } }": "sv", "match some one ( p ) { none { let x : tok = t ; }": "p",
        }
        for text, wanted in texts.items():
            self.assertEqual(self.spent(text), wanted, text)

    def test_behind_the_last_case_is_what_stands_behind_the_match(self):
        for text in ["match some v { none { let x : tok = t ; } one y { let z : tok = s ; }", "match some v { none { give 1 ; } one y { let z : tok = s ; }", "match some v { none { give 1 ; } one y { give 2 ; }"]:
            self.assertEqual(names_at(row(text)), names_at(row(text + " }")), text)

    def test_stock_at(self):
        start = (("far", 1), ("ink", 1), ("page", 1), ("pair", 1), ("some", 1), ("tok", 2))
        texts = {
            "": start, "give use ( t": (*start[:5], ("tok", 1)), "let x : tok = r . near . left ;": (*start[1:5], ("tok", 3)), "repeat 1 {": (("ink", 1), ("page", 1)), "let x : ink = i ;": start,
            "repeat 1 { let x : tok = mint ( i , 1 ) ;": (("ink", 1), ("page", 1), ("tok", 1)), "repeat 1 { }": start, "open pair { x , y } = p ;": (*start[:3], ("some", 1), ("tok", 3)),
            "match some v { none { } one": (*start[:4], ("tok", 2)), "match some v { none { } one x": (*start[:3], ("pair", 2), ("tok", 2)), "if b { give 1 ;": start, "let x : num = 1 ; let y : truth = b ;": start,
        }
        for text, wanted in texts.items():
            self.assertEqual(stock_at(row(text)), wanted, text)

    def test_names_are_in_order_and_new(self):
        words = row("let z : num = 1 ; let a : tok = t ; let m : ink = i ;")
        self.assertEqual(list(names_at(words)), sorted(names_at(words)))
        found = names_at(words)
        found.clear()
        self.assertEqual(len(names_at(words)), 12)
        self.assertEqual(names_at(words)["a"], ("tok", True))
        self.assertEqual(stock_at(words), stock_at(words))


class KindsToCome(unittest.TestCase):

    def test_ahead_of_expressions(self):
        texts = {
            "": (), "let": (), "let x": (), "let x :": (), "let x : tok": ("tok",), "let x : tok =": ("tok",), "open": (), "open pair": ("pair",), "open pair {": ("pair",), "open pair { x , y": ("pair",),
            "open pair { x , y }": ("pair",), "open pair { x , y } =": ("pair",), "if": ("truth",), "repeat": ("num",), "match": (), "match some": ("some",), "give": ("num",), "if b {": (), "if b { }": (),
            "if b { } else": (), "match some v {": (), "match some v { none": (), "match some v { none {": (), "repeat n {": (), "give 1 ;": (), "let x : num = 1 ;": (), "if b { give": ("num",), "if b { let x : ink": ("ink",),
        }
        for text, wanted in texts.items():
            self.assertEqual(kinds_to_come(row(text)), wanted, text)

    def test_behind_operands(self):
        texts = {
            "give 1": (), "give n": (), "give p": (), "give p .": (), "give p . right": (), "give 1 +": ("num",), "give 1 + 2": (), "if 1": (), "if 1 <": ("num",), "if 1 < 2 +": ("num",), "if b and": ("truth",),
            "if b and 1": (), "give (": ("num",), "give ( 1": (), "give ( 1 +": ("num",), "give ( 1 )": (), "if (": ("truth",), "if ( 1 ) <": ("num",), "let x : tok = (": ("tok",), "let x : tok = ( (": ("tok",),
            "give p ;": (), "let x : some = none": (), "if ask": (), "if ask (": (), "if ask ( )": (),
        }
        for text, wanted in texts.items():
            if can_be_read(row(text)):
                self.assertEqual(kinds_to_come(row(text)), wanted, text)

    def test_calls(self):
        texts = {
            "give use": ("tok",), "give use (": ("tok",), "give use ( t": (), "give use ( t )": (), "let x : tok = mint": ("ink", "num"), "let x : tok = mint (": ("ink", "num"), "let x : tok = mint ( i": ("num",),
            "let x : tok = mint ( i ,": ("num",), "let x : tok = mint ( i , 1": (), "let x : pair = both": ("tok", "tok"), "let x : pair = both (": ("tok", "tok"), "let x : pair = both ( t ,": ("tok",),
            "let x : pair = pair": ("tok", "num"), "let x : pair = pair {": ("tok", "num"), "let x : pair = pair { t": ("num",), "let x : pair = pair { t ,": ("num",), "let x : some = one": ("pair",), "let x : some = one (": ("pair",),
            "let x : some = one ( p": (), "let x : bit = yes (": ("num",), "let x : far = far {": ("pair", "page"), "let x : far = far { p ,": ("page",),
        }
        for text, wanted in texts.items():
            self.assertEqual(kinds_to_come(row(text)), wanted, text)

    def test_calls_within_calls(self):
        texts = {
            "let x : far = far { pair": ("tok", "num", "page"), "let x : far = far { pair {": ("tok", "num", "page"), "let x : far = far { pair { mint": ("ink", "num", "num", "page"),
            "let x : far = far { pair { mint (": ("ink", "num", "num", "page"), "let x : far = far { pair { mint ( i": ("num", "num", "page"), "let x : far = far { pair { mint ( i , 1": ("num", "page"),
            "let x : far = far { pair { mint ( i , 1 )": ("num", "page"), "let x : far = far { pair { mint ( i , 1 ) ,": ("num", "page"), "let x : far = far { pair { mint ( i , 1 ) , 1 +": ("num", "page"),
            "let x : far = far { pair { mint ( i , 1 ) , 1 }": ("page",), "let x : far = far { ( both (": ("tok", "tok", "page"), "let x : far = far { ( both ( t , ( (": ("tok", "page"), "let x : far = far { ( both ( t , s ) )": ("page",),
            "give 1 + use ( both (": ("tok", "tok"), "give 1 + use ( both ( t , s ) .": (), "let x : far = far { p , page {": ("ink", "truth"), "let x : far = far { p , page { i , 1 <": ("num",),
            "let x : far = far { p , page { i , b and (": ("truth",), "let x : some = one ( both ( t , mint ( i , use (": ("tok",), "let x : pair = both ( mint ( i , ( 1 + ( 2": ("tok",),
        }
        for text, wanted in texts.items():
            self.assertEqual(kinds_to_come(row(text)), wanted, text)

    def test_in_blocks(self):
        for around in ["if b {", "repeat 1 {", "match some v { none {", "if b { } else {", "repeat 1 { if b {"]:
            self.assertEqual(kinds_to_come(row(around + " let x : tok = mint (")), ("ink", "num"), around)
            self.assertEqual(kinds_to_come(row(around)), (), around)


if __name__ == "__main__":
    unittest.main()
