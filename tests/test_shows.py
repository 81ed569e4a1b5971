import unittest

from recastle.shows import shown, shown_rule
from tests.helper import chance_trees, gap, let, name, say_chain, wide_tree

ONE = ("num", 1)
X = name("x")
ASK = ("ask", "w")

# Each sign, with all its blanks.
TEXTS = [
    (("num", 0), "0"),
    (("num", 7), "7"),
    (("num", 10), "10"),
    (("num", 10 ** 30 - 1), "9" * 30),
    (name("x"), "x"),
    (name("abcdefgh"), "abcdefgh"),
    (("ask", "w"), "(ask w)"),
    (("stop", "abcdefgh"), "(stop abcdefgh)"),
    (("say", ONE), "(say 1)"),
    (("add", ONE, X), "(1 + x)"),
    (("sub", ONE, X), "(1 - x)"),
    (("mul", ONE, X), "(1 * x)"),
    (("then", ONE, X), "(1 ; x)"),
    (("if", ONE, X, ASK), "(if 1 then x else (ask w))"),
    (let("y", ONE, X), "(let y = 1 in x)"),
    (gap("g"), "?g"),
    (gap("abcdefgh"), "?abcdefgh"),
    (gap("g", X), "?g[x]"),
    (gap("g", X, ONE), "?g[x 1]"),
    (gap("g", X, ("num", 20), gap("h")), "?g[x 20 ?h]"),
    (gap("g", gap("g"), gap("h"), gap("g")), "?g[?g ?h ?g]"),
    (("say", gap("g")), "(say ?g)"),
    (("if", gap("a"), gap("b", X), gap("c")), "(if ?a then ?b[x] else ?c)"),
    (let("y", gap("a"), gap("b", name("y"))), "(let y = ?a in ?b[y])"),
    (("add", ("add", ONE, X), ONE), "((1 + x) + 1)"),
    (("add", ONE, ("add", X, ONE)), "(1 + (x + 1))"),
    (("say", ("say", ("say", ASK))), "(say (say (say (ask w))))"),
    (("then", ("say", ONE), ("sub", ("mul", X, X), ("stop", "w"))), "((say 1) ; ((x * x) - (stop w)))"),
]

LEFT = ("add", gap("a"), gap("b"))
RULE_TEXTS = [
    ((LEFT, gap("a"), ()), "(?a + ?b) -> ?a"),
    ((LEFT, gap("a"), (("a", "quiet"),)), "(?a + ?b) -> ?a where a quiet"),
    ((LEFT, gap("a"), (("b", "number"),)), "(?a + ?b) -> ?a where b number"),
    ((LEFT, gap("a"), (("a", "number"), ("b", "quiet"))), "(?a + ?b) -> ?a where a number, b quiet"),
    ((let("x", gap("a"), gap("b", X)), gap("b", gap("a")), (("a", "number"),)),
     "(let x = ?a in ?b[x]) -> ?b[?a] where a number"),
    # What makes a rule is not looked at.
    ((ONE, X, (("z", "number"),)), "1 -> x where z number"),
]


class ShownTest(unittest.TestCase):
    def test_each_sign(self):
        for tree, text in TEXTS:
            with self.subTest(text):
                self.assertEqual(shown(tree), text)

    def test_deep_trees(self):
        self.assertEqual(shown(say_chain(230, X)), "(say " * 230 + "x" + ")" * 230)
        self.assertEqual(shown(wide_tree([ONE] * 100)), "(" * 99 + "1" + " ; 1)" * 99)

    def test_unlike_trees_have_unlike_texts(self):
        told = {}
        for tree in chance_trees(21, 500):
            self.assertEqual(told.setdefault(shown(tree), tree), tree)


class ShownRuleTest(unittest.TestCase):
    def test_each_form(self):
        for rule, text in RULE_TEXTS:
            with self.subTest(text):
                self.assertEqual(shown_rule(rule), text)


if __name__ == "__main__":
    unittest.main()
