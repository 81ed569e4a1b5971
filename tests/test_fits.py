import random
import unittest

from recastle.errors import NoFill, NoRule, RecastError
from recastle.fits import fit, filled
from recastle.names import KEPT_WORDS
from recastle.reads import read, read_rule
from recastle.rules import form, gaps_of
from recastle.trees import part_at, places, put_at
from tests.helper import (
    chance_fillings, chance_shapes, chance_tree, gap, let, name, nameless, nameless_filled, nameless_fit,
    nameless_piece, say_chain,
)

KINDS = [
    (), (("a", "quiet"),), (("a", "quiet"), ("p", "quiet")), (("n", "number"),), (("b", "quiet"), ("n", "number")),
]


def nameless_pieces(filling):
    return {word: nameless_piece(piece) for word, piece in filling.items()}


def piece(names, text):
    return (tuple(names.split()), read(text))


def pieces(**told):
    """Pieces by gaps, each written as its names, a colon and its tree."""
    found = {}
    for word, text in told.items():
        names, colon, tree = text.rpartition(": ")
        found[word] = piece(names, tree)
    return found


def rules_of(shapes, kinds):
    """Those of the shapes that are the left of a rule, with the kinds whose gaps they have."""
    for shape in shapes:
        gaps = gaps_of(shape)
        rule = (shape, ("num", 0), tuple(pair for pair in kinds if pair[0] in gaps))
        try:
            form(rule)
        except NoRule:
            continue
        yield rule


class FitTest(unittest.TestCase):
    def fits(self, rule_text, tree_text, kinds=None, **told):
        rule = read_rule(rule_text)
        form(rule)
        with self.subTest(rule=rule_text, tree=tree_text):
            filling = fit(rule, read(tree_text), kinds)
            self.assertIsNotNone(filling)
            self.assertEqual(nameless_pieces(filling), nameless_pieces(pieces(**told)))
            self.assertEqual(nameless(filled(rule[0], filling)), nameless(read(tree_text)))

    def differs(self, rule_text, tree_text, kinds=None):
        rule = read_rule(rule_text)
        form(rule)
        with self.subTest(rule=rule_text, tree=tree_text):
            self.assertIsNone(fit(rule, read(tree_text), kinds))

    def test_signs_and_leaves(self):
        rule = "(?a + 0) -> ?a"
        self.fits(rule, "(x + 0)", a="x")
        self.fits(rule, "((1 + 0) + 0)", a="(1 + 0)")
        self.fits(rule, "((say (ask w)) + 0)", a="(say (ask w))")
        for tree in ["(x + 1)", "(x - 0)", "(0 + x)", "0", "x", "(say 0)", "(x + y)", "(x + (ask w))", "(let x = 1 in 0)"]:
            self.differs(rule, tree)

    def test_words_count(self):
        self.fits("(say (ask w)) -> 1", "(say (ask w))")
        self.differs("(say (ask w)) -> 1", "(say (ask v))")
        self.differs("(say (ask w)) -> 1", "(say (stop w))")
        self.differs("(say (stop w)) -> 1", "(say (stop v))")
        self.differs("(say (ask w)) -> 1", "(say w)")

    def test_each_sign(self):
        texts = ["(say @)", "(@ + 5)", "(@ - 5)", "(@ * 5)", "(@ ; 5)", "(if @ then 5 else 6)", "(let v = @ in 5)"]
        for left in texts:
            for tree in texts:
                rule = left.replace("@", "?a") + " -> 1"
                if left == tree:
                    self.fits(rule, tree.replace("@", "(x * (ask w))"), a="(x * (ask w))")
                else:
                    self.differs(rule, tree.replace("@", "x"))

    def test_a_rule_without_gaps(self):
        rule = read_rule("(1 + 2) -> 3")
        self.assertEqual(fit(rule, read("(1 + 2)")), {})
        self.assertIsNone(fit(rule, read("(2 + 1)")))

    def test_a_gap_that_comes_twice(self):
        rule = "(?a - ?a) -> 0"
        self.fits(rule, "(x - x)", a="x")
        self.fits(rule, "((say 1) - (say 1))", a="(say 1)")
        self.fits(rule, "((let x = 1 in x) - (let y = 1 in y))", a="(let z = 1 in z)")
        for tree in ["(x - y)", "(1 - 2)", "((1 + 2) - (2 + 1))", "((ask w) - (stop w))",
                     "((let x = 1 in x) - (let y = 2 in y))", "((let x = 1 in x) - (let y = 1 in x))"]:
            self.differs(rule, tree)

    def test_a_gap_that_comes_twice_farther_in(self):
        rule = "(if ?a then (?b + ?a) else (say ?b)) -> 1"
        self.fits(rule, "(if x then (1 + x) else (say 1))", a="x", b="1")
        self.differs(rule, "(if x then (1 + y) else (say 1))")
        self.differs(rule, "(if x then (1 + x) else (say 2))")

    def test_quiet(self):
        rule = "(?a ; ?b) -> ?b where a quiet"
        self.fits(rule, "((x + 1) ; (say 2))", a="(x + 1)", b="(say 2)")
        self.fits(rule, "((let x = 1 in x) ; 2)", a="(let x = 1 in x)", b="2")
        for loud in ["(say 1)", "(ask w)", "(stop w)", "(1 + (2 * (ask w)))", "(let x = (say 1) in 2)"]:
            self.differs(rule, "(" + loud + " ; 2)")

    def test_number(self):
        rule = "(?a ; ?b) -> ?b where a number"
        self.fits(rule, "(0 ; (say 2))", a="0", b="(say 2)")
        self.fits(rule, "(" + "9" * 30 + " ; x)", a="9" * 30, b="x")
        for other in ["x", "(1 + 2)", "(ask w)", "(stop w)", "(say 1)"]:
            self.differs(rule, "(" + other + " ; 2)")

    def test_kind_of_a_gap_with_atoms(self):
        rule = "(let x = ?a in ?b[x]) -> ?a where b quiet"
        self.fits(rule, "(let y = (say 1) in (y + y))", a="(say 1)", b="y: (y + y)")
        self.differs(rule, "(let y = 1 in (say y))")

    def test_bound_names_of_the_left(self):
        rule = "(let x = ?a in (x + ?b)) -> 1"
        self.fits(rule, "(let y = 2 in (y + z))", a="2", b="z")
        self.fits(rule, "(let y = y in (y + 3))", a="y", b="3")
        self.fits(rule, "(let y = x in (y + x))", a="x", b="x")
        self.fits(rule, "(let y = 1 in (y + (let y = 2 in y)))", a="1", b="(let y = 2 in y)")
        for tree in ["(let y = 1 in (z + 1))", "(let y = 1 in (1 + y))", "(let y = 1 in (y + y))",
                     "(let y = 1 in (x + 1))", "(let y = 1 in (y + (let z = y in 1)))", "(let y = 1 in (y + ?g[y]))"]:
            self.differs(rule, tree)

    def test_names_that_no_atom_tells(self):
        rule = "(let x = ?a in (let y = ?b in ?c[y])) -> 1"
        self.fits(rule, "(let n = 1 in (let m = 2 in m))", a="1", b="2", c="m: m")
        self.fits(rule, "(let n = 1 in (let n = 2 in n))", a="1", b="2", c="n: n")
        self.fits(rule, "(let n = 1 in (let m = 2 in (k + n)))".replace("n)", "m)"), a="1", b="2", c="m: (k + m)")
        for tree in ["(let n = 1 in (let m = 2 in n))", "(let n = 1 in (let m = n in m))",
                     "(let n = 1 in (let m = 2 in (m + n)))", "(let n = 1 in (let n = n in n))"]:
            self.differs(rule, tree)

    def test_atoms(self):
        rule = "(let x = ?a in ?b[x]) -> 1"
        self.fits(rule, "(let n = 1 in (n + (n * k)))", a="1", b="v: (v + (v * k))")
        self.fits(rule, "(let n = 1 in 2)", a="1", b="n: 2")
        self.fits(rule, "(let n = n in n)", a="n", b="v: v")
        self.fits(rule, "(let n = 1 in (let n = n in n))", a="1", b="v: (let k = v in k)")
        self.fits(rule, "(let n = 1 in (let k = n in (n + k)))", a="1", b="v: (let u = v in (v + u))")

    def test_atoms_in_another_order(self):
        tree = "(let n = 1 in (let m = 2 in (n - (m * k))))"
        self.fits("(let x = ?a in (let y = ?b in ?c[x y])) -> 1", tree, a="1", b="2", c="u v: (u - (v * k))")
        self.fits("(let x = ?a in (let y = ?b in ?c[y x])) -> 1", tree, a="1", b="2", c="v u: (u - (v * k))")

    def test_three_atoms(self):
        self.fits(
            "(let x = 1 in (let y = 2 in (let z = 3 in ?c[z x y]))) -> 1",
            "(let n = 1 in (let m = 2 in (let k = 3 in ((n - m) - (k - w)))))", c="p q r: ((q - r) - (p - w))")

    def test_a_let_of_the_tree_that_hides_another(self):
        rule = read_rule("(let x = ?a in (let y = ?b in ?c[x y])) -> 1")
        filling = fit(rule, read("(let n = 1 in (let n = 2 in (n + a)))"))
        names, tree = filling["c"]
        self.assertEqual(len(set(names)), 2)
        self.assertEqual(nameless_piece(filling["c"]), nameless_piece(piece("p q", "(q + a)")))
        three = read_rule("(let x = ?a in (let y = ?b in (let z = ?d in ?c[x y z]))) -> 1")
        filling = fit(three, read("(let n = 1 in (let n = 2 in (let n = 3 in ((n + a) + b))))"))
        self.assertEqual(len(set(filling["c"][0])), 3)
        self.assertEqual(nameless_piece(filling["c"]), nameless_piece(piece("p q r", "((r + a) + b)")))

    def test_pieces_names_are_words(self):
        rule = read_rule("(let x = ?a in (let y = ?b in ?c[x y])) -> 1")
        for tree in ["(let n = 1 in (let n = 2 in n))", "(let n = 1 in (let m = 2 in (n + m)))"]:
            for word in fit(rule, read(tree))["c"][0]:
                self.assertRegex(word, "^[a-z]{1,8}$")
                self.assertNotIn(word, KEPT_WORDS)

    def test_a_gap_with_atoms_that_comes_twice(self):
        rule = "((let x = ?a in ?b[x]) + (let y = ?c in ?b[y])) -> 1"
        self.fits(rule, "((let n = 1 in (n * k)) + (let m = 2 in (m * k)))", a="1", b="u: (u * k)", c="2")
        self.fits(rule, "((let n = 1 in k) + (let m = 2 in k))", a="1", b="u: k", c="2")
        for tree in ["((let n = 1 in (n * k)) + (let m = 2 in (m * m)))",
                     "((let n = 1 in (n * k)) + (let k = 2 in (k * k)))",
                     "((let k = 1 in (k * k)) + (let n = 2 in (n * k)))",
                     "((let n = 1 in n) + (let m = 2 in n))",
                     "((let n = 1 in m) + (let m = 2 in m))"]:
            self.differs(rule, tree)

    def test_a_gap_that_comes_twice_with_its_atoms_in_another_order(self):
        rule = "(let x = 1 in (let y = 2 in (?c[x y] + ?c[y x]))) -> 1"
        self.fits(rule, "(let n = 1 in (let m = 2 in ((n - m) + (m - n))))", c="u v: (u - v)")
        self.fits(rule, "(let n = 1 in (let m = 2 in (3 + 3)))", c="u v: 3")
        self.differs(rule, "(let n = 1 in (let m = 2 in ((n - m) + (n - m))))")
        self.fits("(let x = 1 in (?c[x] + (let y = 2 in ?c[y]))) -> 1",
                  "(let n = 1 in ((n + k) + (let n = 2 in (n + k))))", c="u: (u + k)")
        self.differs("(let x = 1 in (?c[x] + (let y = 2 in ?c[y]))) -> 1",
                     "(let n = 1 in ((n + n) + (let m = 2 in (n + m))))")

    def test_a_gap_outside_and_inside_a_let(self):
        rule = "(?a + (let x = 1 in ?a)) -> 1"
        self.fits(rule, "(n + (let m = 1 in n))", a="n")
        self.differs(rule, "(n + (let n = 1 in n))")
        self.fits("((let x = 1 in ?a) + (let y = 1 in ?a)) -> 1", "((let n = 1 in k) + (let m = 1 in k))", a="k")
        self.differs("((let x = 1 in ?a) + (let y = 1 in ?a)) -> 1", "((let n = 1 in n) + (let n = 1 in n))")

    def test_names_of_the_left_are_no_names_of_the_tree(self):
        rule = "(let x = ?a in ?b) -> 1"
        self.fits(rule, "(let n = 1 in x)", a="1", b="x")
        self.differs(rule, "(let x = 1 in x)")

    def test_own_gaps_are_held_fast(self):
        self.fits("(?a + 0) -> ?a", "(?g + 0)", a="?g")
        self.fits("(?a + 0) -> ?a", "(?a + 0)", a="?a")
        self.fits("(?a + 0) -> ?a", "((?b * ?a) + 0)", a="(?b * ?a)")
        self.fits("(?a - ?a) -> ?a", "(?g - ?g)", a="?g")
        self.differs("(?a - ?a) -> ?a", "(?g - ?h)")
        for tree in ["?g", "(?g + ?h)", "(1 + ?g)"]:
            self.differs("(?a + 0) -> ?a", tree)
            self.differs("(?a + 0) -> ?a", tree, (("g", "number"), ("h", "number")))

    def test_kinds_of_own_gaps(self):
        quiet = "(?a ; ?b) -> ?b where a quiet"
        number = "(?a ; ?b) -> ?b where a number"
        for kinds in [None, (), (("h", "quiet"),)]:
            self.differs(quiet, "(?g ; 1)", kinds)
            self.differs(quiet, "((1 + ?g) ; 1)", kinds)
            self.differs(number, "(?g ; 1)", kinds)
        self.fits(quiet, "(?g ; 1)", (("g", "quiet"),), a="?g", b="1")
        self.fits(quiet, "(?g ; 1)", (("g", "number"),), a="?g", b="1")
        self.fits(quiet, "((1 + ?g) ; ?k)", (("g", "quiet"), ("h", "number")), a="(1 + ?g)", b="?k")
        self.fits(number, "(?g ; 1)", (("g", "number"),), a="?g", b="1")
        self.differs(number, "(?g ; 1)", (("g", "quiet"),))
        self.differs(number, "((1 + ?g) ; 1)", (("g", "number"),))
        # The kinds of the rule's gaps are not those of the tree's, though both are called a.
        self.differs(quiet, "(?a ; 1)")
        self.differs(number, "(?a ; 1)")
        self.fits("(?a ; ?b) -> ?b", "(?a ; ?b)", (("a", "quiet"),), a="?a", b="?b")

    def test_nothing_handed_in_is_changed(self):
        rule = read_rule("(?a + ?b) -> ?a")
        tree = read("(1 + 2)")
        first = fit(rule, tree)
        first["a"] = "spoilt"
        self.assertEqual(fit(rule, tree), pieces(a="1", b="2"))

    def test_great_trees(self):
        deep = say_chain(230, name("x"))
        self.assertTrue(fit(read_rule("(say ?a) -> ?a"), deep) == {"a": ((), deep[1])})
        self.assertIsNone(fit(read_rule("(?a - ?a) -> ?a"), ("sub", deep, deep[1])))
        self.assertIsNotNone(fit(read_rule("(?a - ?a) -> ?a"), ("sub", deep, deep)))
        wide = let("n", ("num", 1), say_chain(230, name("n")))
        self.assertIsNone(fit(read_rule("(let x = ?a in ?b) -> ?a"), wide))
        self.assertIsNotNone(fit(read_rule("(let x = ?a in ?b[x]) -> ?a"), wide))

    def check(self, rule, tree, kinds):
        expected = {}
        if nameless_fit(nameless(rule[0]), nameless(tree), dict(rule[2]), dict(kinds), expected):
            filling = fit(rule, tree, kinds)
            self.assertIsNotNone(filling)
            self.assertEqual(nameless_pieces(filling), expected)
            for word, (names, inner) in filling.items():
                self.assertEqual(len(names), gaps_of(rule[0])[word])
                self.assertEqual(len(set(names)), len(names))
            self.assertEqual(nameless(filled(rule[0], filling)), nameless(tree))
            return True
        self.assertIsNone(fit(rule, tree, kinds))
        return False

    def test_many_rules(self):
        chance = random.Random(41)
        shapes = chance_shapes(42, 1500)
        told = {True: 0, False: 0}
        for number, filling in enumerate(chance_fillings(43, 1500)):
            for rule in rules_of([shapes[number]], chance.choice(KINDS)):
                tree = filled(rule[0], filling)
                kinds = chance.choice([(), (("g", "quiet"),), (("g", "number"), ("h", "quiet"))])
                told[self.check(rule, tree, kinds)] += 1
                # The same tree with one part put otherwise, by another of its parts or by a new one.
                place = chance.choice(places(tree))
                other = chance.choice([part_at(tree, chance.choice(places(tree))), chance_tree(chance, 1, "xyzuv")])
                told[self.check(rule, put_at(tree, place, other), kinds)] += 1
        self.assertGreater(min(told.values()), 400)


class FilledTest(unittest.TestCase):
    def becomes(self, shape, expected, **told):
        filling = pieces(**told)
        handed_in = dict(filling)
        with self.subTest(shape):
            self.assertEqual(nameless(filled(read(shape), filling)), nameless(read(expected)))
            self.assertEqual(filling, handed_in)

    def test_without_gaps(self):
        for text in ["1", "x", "(let x = 1 in (x + y))", "(ask w)"]:
            self.assertEqual(filled(read(text), {}), read(text))
            self.assertEqual(filled(read(text), pieces(g="1")), read(text))

    def test_gaps_without_atoms(self):
        self.assertEqual(filled(read("?g"), pieces(g="(x + 1)")), read("(x + 1)"))
        self.assertEqual(
            filled(read("(?a + (?b ; (say ?a)))"), pieces(a="x", b="(stop w)")), read("(x + ((stop w) ; (say x)))"))
        self.assertEqual(
            filled(read("(if ?a then ?b else (let x = ?a in x))"), pieces(a="y", b="2")),
            read("(if y then 2 else (let x = y in x))"))

    def test_atoms(self):
        self.becomes("(let x = 1 in ?g[x])", "(let x = 1 in (x * x))", g="n: (n * n)")
        self.becomes("?g[7]", "(7 * 7)", g="n: (n * n)")
        self.becomes("?g[y]", "(y * y)", g="n: (n * n)")
        self.becomes("?g[7 8]", "(8 - 7)", g="n m: (m - n)")
        self.becomes("?g[8 8]", "(8 - 8)", g="n m: (m - n)")
        self.becomes("(let x = 1 in (let y = 2 in (?g[x y] + ?g[y x])))",
                     "(let x = 1 in (let y = 2 in ((y - x) + (x - y))))", g="n m: (m - n)")
        self.becomes("?g[1 2 3]", "((3 - 2) - 1)", g="n m k: ((k - m) - n)")
        self.becomes("?g[7]", "5", g="n: 5")

    def test_names_all_at_once(self):
        self.becomes("(let x = 1 in (let y = 2 in ?g[y x]))", "(let n = 1 in (let m = 2 in (m - n)))", g="x y: (x - y)")
        self.becomes("(let x = 1 in (let y = 2 in ?g[x y]))", "(let n = 1 in (let m = 2 in (m - n)))", g="y x: (x - y)")

    def test_atoms_that_are_gaps(self):
        self.becomes("?g[?h]", "(7 * 7)", g="n: (n * n)", h="7")
        self.becomes("?g[?h]", "(y * y)", g="n: (n * n)", h="y")
        self.becomes("?g[?h]", "(?k * ?k)", g="n: (n * n)", h="?k")
        self.becomes("(let x = 1 in ?g[?h x])", "(let x = 1 in (7 - x))", g="n m: (n - m)", h="7")
        self.becomes("(let x = 1 in ?g[?h x])", "(let y = 1 in (x - y))", g="n m: (n - m)", h="x")
        self.becomes("(let x = 1 in ?g[?h])", "(let y = 1 in 5)", g="n: 5", h="x")
        self.becomes("?g[?h]", "(let m = 1 in (n + m))", g="k: (let n = 1 in (k + n))", h="n")

    def test_a_let_that_would_catch(self):
        self.becomes("(let x = 1 in ?g)", "(let y = 1 in x)", g="x")
        self.becomes("(let x = 1 in (x + ?g))", "(let y = 1 in (y + x))", g="x")
        self.becomes("(let x = ?g in (x + ?g))", "(let y = x in (y + x))", g="x")
        self.becomes("(let x = 1 in ?g[x])", "(let y = 1 in (y + x))", g="n: (n + x)")
        self.becomes("(let x = 1 in (let y = x in ?g[x y]))", "(let p = 1 in (let q = p in ((p + q) * (x - y))))",
                     g="n m: ((n + m) * (x - y))")
        self.becomes("(let x = 1 in (let x = 2 in (x + ?g)))", "(let p = 1 in (let q = 2 in (q + x)))", g="x")
        self.becomes("(let x = 1 in ((let x = 2 in x) + (x + ?g)))", "(let p = 1 in ((let q = 2 in q) + (p + x)))", g="x")
        self.becomes("(let x = 1 in ?g)", "(let y = 1 in (let k = 2 in (k + x)))", g="(let k = 2 in (k + x))")

    def test_other_names_do_not_clash(self):
        # The first words are a, b, c: each in use in the shape or in a piece.
        self.becomes(
            "(let x = 1 in (let a = 2 in ((x + a) + (c + ?g))))", "(let p = 1 in (let q = 2 in ((p + q) + (c + (x + b)))))",
            g="(x + b)")
        self.becomes(
            "(let x = 1 in (let y = 2 in ?g[x y]))",
            "(let p = 1 in (let q = 2 in (let r = 3 in ((p + q) + (r + (x + y))))))",
            g="n m: (let a = 3 in ((n + m) + (a + (x + y))))")

    def test_names_of_a_piece_are_its_own(self):
        # The piece's name is called like the let's, and is no free name of it.
        self.assertEqual(
            filled(read("(let x = 1 in ?g[x])"), pieces(g="x: (x + x)")), read("(let x = 1 in (x + x))"))
        self.becomes("(let x = 1 in (let y = 2 in ?g[y]))", "(let x = 1 in (let y = 2 in y))", g="x: x")

    def test_a_let_within_a_piece_does_not_catch_an_atom(self):
        self.becomes("(let x = 1 in ?g[x])", "(let p = 1 in (let q = 2 in (p + q)))", g="n: (let x = 2 in (n + x))")

    def test_lets_that_catch_nothing_keep_their_names(self):
        for shape, told, expected in [
            ("(let x = ?g in x)", {"g": "x"}, "(let x = x in x)"),
            ("(?g + (let x = 1 in x))", {"g": "x"}, "(x + (let x = 1 in x))"),
            ("(let x = 1 in ?g)", {"g": "(let x = 2 in x)"}, "(let x = 1 in (let x = 2 in x))"),
            ("(let x = 1 in ?g)", {"g": "y", "h": "x"}, "(let x = 1 in y)"),
        ]:
            with self.subTest(shape):
                self.assertEqual(filled(read(shape), pieces(**told)), read(expected))

    def test_own_gaps_of_pieces_stay(self):
        self.becomes("(?g + ?h)", "((?h + 1) + ?g)", g="(?h + 1)", h="?g")
        self.becomes("?g", "?g", g="?g")

    def test_no_fill(self):
        for shape, told in [
            ("?g", {}), ("?g", {"h": "1"}), ("(?g + ?h)", {"g": "1"}), ("(?g + ?h)", {"h": "1"}),
            ("(let x = 1 in (say (x + ?g[x])))", {}), ("?g[?h]", {"g": "n: n"}), ("?g[?h]", {"h": "1"}),
            ("(let x = ?a in ?g[x ?h 1])", {"g": "n m k: 1", "a": "2"}), ("(let x = ?a in ?b)", {"b": "1"}),
        ]:
            with self.subTest(shape):
                with self.assertRaises(NoFill) as caught:
                    filled(read(shape), pieces(**told))
                self.assertIsInstance(caught.exception, RecastError)

    def test_one_gap_too_many(self):
        self.becomes("(?g + 1)", "(2 + 1)", g="2", h="3", k="n m: (n - m)")

    def test_great_shapes(self):
        deep = say_chain(199, gap("g"))
        self.assertTrue(filled(deep, pieces(g="x")) == say_chain(199, name("x")))
        wide = gap("g", name("w"))
        for word in "abcdefgh":
            wide = let(word, gap("g", name("w")), ("add", name(word), wide))
        filling = {"g": (("n",), say_chain(10, ("add", name("n"), name("c"))))}
        self.assertTrue(
            nameless(filled(wide, filling)) == nameless_filled(nameless(wide), nameless_pieces(filling)))

    def test_many_shapes(self):
        shapes = chance_shapes(44, 2000) + chance_shapes(45, 500, depth=4)
        for shape, filling in zip(shapes, chance_fillings(46, 2500)):
            handed_in = dict(filling)
            expected = nameless_filled(nameless(shape), nameless_pieces(filling))
            self.assertEqual(nameless(filled(shape, filling)), expected)
            self.assertEqual(filling, handed_in)


if __name__ == "__main__":
    unittest.main()
