import unittest

from recastle.errors import NoRule, RecastError
from recastle.reads import read, read_rule
from recastle.rules import form, gaps_of, is_quiet
from tests.helper import LEAVES, chance_trees, gap, name, nameless_quiet, say_chain

ONE = ("num", 1)

RULES = [
    "(?a + 0) -> ?a",
    "(0 * ?a) -> 0 where a quiet",
    "(?a + ?b) -> (?b + ?a) where a quiet, b quiet",
    "(1 + 2) -> 3",
    "(say ?a) -> ?a",
    "(let x = ?a in ?b) -> (?a ; ?b)",
    "(let x = ?a in ?b[x]) -> ?b[?a] where a number",
    "(let x = ?a in ?b[x]) -> (let y = ?a in ?b[y])",
    "(let x = ?a in (let y = ?b in ?c[x y])) -> (let y = ?b in (let x = ?a in ?c[x y])) where a quiet, b quiet",
    # At the right an atom may be a number, a gap of kind number, and may come twice.
    "(let x = ?a in ?b[x]) -> ?b[7]",
    "(let x = ?a in (let y = ?b in ?c[x y])) -> (let x = ?a in ?c[x x])",
    "((let x = ?n in (let y = ?b in ?c[x y])) + ?m) -> (?c[?n ?m] + ?c[?n ?n]) where m number, n number",
    "(let x = ?a in (let y = ?b in (let z = ?c in ?d[x y z]))) -> ?d[1 1 1]",
    # The same name may be bound at the left and at the right, and a gap may come twice.
    "(let x = ?a in x) -> (let x = ?a in x)",
    "(?a - ?a) -> 0 where a quiet",
    "((let x = ?a in ?b[x]) + (let y = ?a in ?b[y])) -> (let z = ?a in (?b[z] + ?b[z])) where a quiet, b quiet",
    "(let x = ?a in (x + ?b[x])) -> ?a",
    # The left is loud, by any one of the three signs, and so may be the right.
    "(say 1) -> ((ask w) + (stop w))",
    "(1 + (ask w)) -> (say 1)",
    "(1 + (stop w)) -> (say (ask w))",
    "(let x = (say ?a) in x) -> (say ?a)",
    "(?a ; ?b) -> ?b where a number, b number",
]

# By the word that is first due; each has no other, or only later ones.
NO_RULES = {
    "leaf": [
        "1 -> 2", "0 -> 0", "(ask w) -> (ask w)", "(stop w) -> 1", "?g -> ?g", "?g -> 1", "?g -> ?g where g number",
        # And others too.
        "x -> 1", "1 -> x", "?g[x] -> 1", "?g[1] -> 1", "1 -> ?g", "1 -> 1 where g quiet", "1 -> (say 1)",
        "1 -> (let x = 1 in (let x = 1 in 2))", "x -> ?g[?h] where z number", "?g[1 1] -> (say y)",
    ],
    "twice": [
        "(let x = 1 in (let x = 2 in 3)) -> 1",
        "(let x = (let x = 1 in 2) in 3) -> 1",
        "((let x = 1 in 2) + (let x = 1 in 2)) -> 1",
        "(1 + 2) -> (let x = 1 in (let x = 2 in 3))",
        "(1 + 2) -> ((let x = 1 in x) + (let x = 1 in x))",
        "(let y = 1 in (let x = 1 in (let x = 1 in 2))) -> 1",
        # And others too.
        "(let x = y in (let x = 2 in 3)) -> 1",
        "(let x = 1 in (let x = 2 in ?g[x x])) -> 1",
        "(let x = 1 in (let x = 2 in 3)) -> ?g",
        "(let x = 1 in (let x = 2 in 3)) -> 1 where g quiet",
        "(let x = 1 in (let x = 2 in 3)) -> (say 1)",
    ],
    "free": [
        "(x + 1) -> 1",
        "(1 + 1) -> x",
        "(let x = x in 1) -> 1",
        "(let x = 1 in y) -> 1",
        "((let x = 1 in x) + x) -> 1",
        "(let x = 1 in x) -> x",
        "(1 + ?g[x]) -> 1",
        "(let x = ?g[x] in 1) -> 1",
        "(let x = ?a in ?b[x]) -> ?b[x]",
        "(let x = ?a in ?b[x]) -> ?b[y]",
        "(let x = ?a in ?b[x]) -> (let y = ?b[y] in 1)",
        "(let x = 1 in (?g[x] + ?h[y])) -> 1",
        # And others too.
        "(x + ?g[1]) -> 1", "(x + 1) -> ?g", "(x + 1) -> 1 where g quiet", "(x + 1) -> (say 1)",
        "(let x = ?a in (?g[x x] + y)) -> 1",
    ],
    "told": [
        # At the left an atom is no name.
        "(1 + ?g[1]) -> 1",
        "(1 + ?g[?h]) -> 1",
        "((1 + ?h) + ?g[?h]) -> 1 where h number",
        "(let x = 1 in ?g[x 1]) -> 1",
        "(let x = 1 in ?g[1 x]) -> 1",
        # At the left a gap has an atom twice.
        "(let x = 1 in ?g[x x]) -> 1",
        "(let x = 1 in (let y = 2 in ?g[x y x])) -> 1",
        # More or fewer atoms than where the gap comes first.
        "(let x = 1 in (?g[x] + ?g)) -> 1",
        "(let x = 1 in (?g + ?g[x])) -> 1",
        "(let x = 1 in (let y = 2 in (?g[x] + ?g[x y]))) -> 1",
        "(let x = 1 in ?g[x]) -> ?g",
        "(let x = 1 in ?g[x]) -> ?g[1 2]",
        "(let x = 1 in ?g) -> ?g[1]",
        "(let x = 1 in (let y = 2 in ?g[x y])) -> ?g[1]",
        "(let x = 1 in (let y = 2 in (?g[x y] + ?h[x]))) -> (?g[1 2] + ?h[1 2])",
        # A gap with atoms among atoms.
        "(let x = ?h in (?g[x] + ?k[x])) -> ?g[?g]",
        "(let x = ?h in (?g[x] + ?k[x])) -> ?g[?k] where k number",
        # At the right an atom is a gap that is not of the kind number.
        "(let x = ?h in ?g[x]) -> ?g[?h]",
        "(let x = ?h in ?g[x]) -> ?g[?h] where h quiet",
        "(let x = ?h in (?g[x] + ?n)) -> (?g[?n] + ?g[?h]) where n number",
        # A gap that the left lacks counts as told wrong where it is an atom and no number.
        "(let x = ?h in ?g[x]) -> ?g[?k]",
        "(let x = ?h in ?g[x]) -> ?g[?k] where k quiet",
        "(1 + 2) -> ?g[?k]",
        # And others too.
        "(1 + ?g[1]) -> ?h", "(1 + ?g[1]) -> 1 where h quiet", "(1 + ?g[1]) -> (say 1)",
        "(1 + ?g[1]) -> 1 where g number", "(let x = ?a in (?g + ?g[x])) -> (say ?h) where z number",
    ],
    "gap": [
        "(1 + 2) -> ?g",
        "(1 + ?a) -> (?a + ?b)",
        "(let x = ?a in ?b[x]) -> ?b[?n] where n number",
        "(let x = ?a in 1) -> (let x = ?a in ?b[x])",
        "(1 + ?a) -> ?g[7]",
        # And others too.
        "(1 + 2) -> ?g where g quiet", "(1 + 2) -> (say ?g)", "(1 + 2) -> (say ?g) where h number",
        "(let x = ?a in ?b[x]) -> ?g where b number",
    ],
    "kind": [
        "(1 + 2) -> 3 where g quiet",
        "(1 + ?a) -> ?a where b number",
        "(1 + ?a) -> ?a where a quiet, b quiet",
        "(let x = ?a in ?b[x]) -> 1 where b number",
        "(let x = ?a in ?b[x]) -> ?b[1] where a number, b number",
        "(let x = ?a in (let y = ?a in ?b[x y])) -> 1 where b number",
        # And others too.
        "(1 + 2) -> (say 3) where g quiet", "(let x = ?a in ?b[x]) -> (ask w) where b number",
    ],
    "loud": [
        "(1 + 2) -> (say 3)",
        "(1 + 2) -> (ask w)",
        "(1 + 2) -> (stop w)",
        "(?a + ?b) -> (?b + (1 ; (say ?a)))",
        "(?a + ?b) -> (if ?a then ?b else (stop w)) where a quiet",
        "(let x = ?a in ?b[x]) -> (let x = (ask w) in ?b[x])",
    ],
}


class GapsOfTest(unittest.TestCase):
    def test_by_hand(self):
        for text, expected in [
            ("1", {}),
            ("(let x = 1 in (x + (ask w)))", {}),
            ("?g", {"g": 0}),
            ("?g[x]", {"g": 1}),
            ("?g[x 1 y]", {"g": 3}),
            ("?g[?h]", {"g": 1, "h": 0}),
            ("?g[?h ?k x]", {"g": 3, "h": 0, "k": 0}),
            ("(?a + (?b ; ?a))", {"a": 0, "b": 0}),
            ("(if ?a then ?b[1] else (say ?c[x y]))", {"a": 0, "b": 1, "c": 2}),
            ("(let x = ?a in ?b[x])", {"a": 0, "b": 1}),
        ]:
            with self.subTest(text):
                self.assertEqual(gaps_of(read(text)), expected)

    def test_as_where_it_comes_first(self):
        for text, expected in [
            ("(?g + ?g[x])", {"g": 0}),
            ("(?g[x] + ?g)", {"g": 1}),
            ("(?g[x y] + (?g[x] + ?g))", {"g": 2}),
            # The order of places goes to the end of part 0 first.
            ("((1 + (say ?g[x])) + ?g)", {"g": 1}),
            ("(?h[?g] + ?g[x])", {"h": 1, "g": 0}),
            ("(?g[x] + ?h[?g])", {"g": 1, "h": 1}),
            ("?g[?g]", {"g": 1}),
        ]:
            with self.subTest(text):
                self.assertEqual(gaps_of(read(text)), expected)

    def test_the_dict_is_the_askers_own(self):
        shape = read("(?a + ?b[x])")
        gaps_of(shape).clear()
        self.assertEqual(gaps_of(shape), {"a": 0, "b": 1})

    def test_deep_shape(self):
        self.assertEqual(gaps_of(say_chain(230, gap("g", ONE))), {"g": 1})


class IsQuietTest(unittest.TestCase):
    def test_loud_signs(self):
        for text in ["(say 1)", "(ask w)", "(stop w)"]:
            for around in ["@", "(1 + @)", "(@ * 1)", "(if 1 then @ else 2)", "(if 1 then 2 else @)",
                           "(let x = @ in 1)", "(let x = 1 in @)", "(1 ; (2 - (3 * @)))"]:
                self.assertIs(is_quiet(read(around.replace("@", text))), False)
                self.assertIs(is_quiet(read(around.replace("@", text)), (("w", "quiet"),)), False)

    def test_quiet_trees(self):
        for text in ["0", "x", "(1 + x)", "(1 - x)", "(1 * x)", "(1 ; x)", "(if x then 1 else 2)",
                     "(let x = 1 in (x + y))"]:
            self.assertIs(is_quiet(read(text)), True)
            self.assertIs(is_quiet(read(text), None), True)
            self.assertIs(is_quiet(read(text), ()), True)

    def test_gaps(self):
        for text in ["?g", "(1 + ?g)", "(let x = ?g in x)", "(?h + ?g)"]:
            tree = read(text)
            self.assertIs(is_quiet(tree), False)
            self.assertIs(is_quiet(tree, (("h", "quiet"),)), False)
            self.assertIs(is_quiet(tree, (("g", "quiet"), ("h", "quiet"))), True)
            self.assertIs(is_quiet(tree, (("g", "number"), ("h", "number"))), True)
            self.assertIs(is_quiet(tree, (("g", "quiet"), ("h", "number"), ("k", "quiet"))), True)

    def test_gaps_with_atoms(self):
        self.assertIs(is_quiet(read("?g[x 1]")), False)
        self.assertIs(is_quiet(read("?g[x 1]"), (("g", "quiet"),)), True)

    def test_many_trees(self):
        kinds = (("g", "quiet"),)
        told = {True: 0, False: 0}
        for tree in chance_trees(31, 400, depth=2) + LEAVES:
            self.assertIs(is_quiet(tree, kinds), nameless_quiet(tree, dict(kinds)))
            told[is_quiet(tree, kinds)] += 1
        self.assertGreater(min(told.values()), 30)

    def test_deep_tree(self):
        tree = name("x")
        for number in range(230):
            tree = ("add", tree, ONE)
        self.assertIs(is_quiet(tree), True)
        self.assertIs(is_quiet(("add", say_chain(230, ONE), ONE)), False)


class FormTest(unittest.TestCase):
    def test_rules(self):
        for text in RULES:
            with self.subTest(text):
                self.assertIsNone(form(read_rule(text)))

    def test_no_rules(self):
        for why, texts in NO_RULES.items():
            for text in texts:
                with self.subTest(text):
                    with self.assertRaises(NoRule) as caught:
                        form(read_rule(text))
                    self.assertEqual(caught.exception.why, why)
                    self.assertIsInstance(caught.exception, RecastError)

    def test_a_gap_that_is_its_own_atom_at_the_right(self):
        with self.assertRaises(NoRule) as caught:
            form(read_rule("(1 + ?g) -> ?g[?g] where g number"))
        self.assertEqual(caught.exception.why, "told")


if __name__ == "__main__":
    unittest.main()
