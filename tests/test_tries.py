import itertools
import random
import unittest

from recastle.fits import filled
from recastle.names import KEPT_WORDS
from recastle.reads import read_rule
from recastle.rules import form, gaps_of
from recastle.runs import run
from recastle.tries import tried
from tests.helper import chance_shapes, is_rule, nameless_piece

HOLE = ("hole", 0)


def rule_of(text):
    rule = read_rule(text)
    form(rule)
    return rule


def expected_pieces(many, kind):
    """The trees of a gap's pieces in their order, the names of its atoms as holes."""
    trees = [("num", 0), ("num", 1), ("num", 2)]
    if kind == "number":
        return trees
    trees += [("name", "q")] + [("hole", number) for number in range(many)]
    if kind == "quiet":
        return trees
    return trees + [("ask", "q"), ("stop", "q")]


def with_words(tree, words):
    return ("name", words[tree[1]]) if tree[0] == "hole" else tree


def expected_tried(rule):
    kinds = dict(rule[2])
    counts = gaps_of(rule[0])
    gaps = sorted(counts)
    many = 0
    for trees in itertools.product(*[expected_pieces(counts[gap], kinds.get(gap)) for gap in gaps]):
        if many == 100:
            break
        many += 1
        filling = {}
        for gap, tree in zip(gaps, trees):
            words = ("first", "second", "third")[:counts[gap]]
            filling[gap] = (words, with_words(tree, words))
        runs = [run(filled(side, filling), {"q": 5}, {"q": 7}) for side in rule[:2]]
        if runs[0] != runs[1]:
            return ("parted", dict(zip(gaps, trees)))
    return ("tried", many)


def nameless_told(told):
    if told[0] == "tried":
        return told
    return (told[0], {gap: nameless_piece(piece) for gap, piece in told[1].items()})


class TriedTest(unittest.TestCase):
    def many(self, text, many):
        with self.subTest(text):
            told = tried(rule_of(text))
            self.assertEqual(told, ("tried", many))
            self.assertEqual(expected_tried(rule_of(text)), ("tried", many))

    def parted(self, text, **trees):
        with self.subTest(text):
            told = tried(rule_of(text))
            self.assertIsInstance(told, tuple)
            self.assertEqual(nameless_told(told), ("parted", trees))
            self.assertEqual(expected_tried(rule_of(text)), ("parted", trees))

    def test_without_gaps(self):
        self.many("(1 + 2) -> 3", 1)
        self.parted("(1 + 2) -> 4")
        self.many("((stop w) ; 1) -> (stop w)", 1)
        self.parted("((ask q) + 1) -> (ask q)")

    def test_gaps_of_each_kind(self):
        self.many("(?a + 0) -> ?a where a number", 3)
        self.many("(?a + 0) -> ?a where a quiet", 4)
        self.many("(?a + 0) -> ?a", 6)
        self.many("(let x = 1 in ?a[x]) -> ?a[1] where a quiet", 5)
        self.many("(let x = 1 in ?a[x]) -> ?a[1]", 7)
        self.many("(let x = 1 in (let y = 2 in ?a[x y])) -> ?a[1 2] where a quiet", 6)
        self.many("(let x = 1 in (let y = 2 in (let z = 3 in ?a[x y z]))) -> ?a[1 2 3]", 9)

    def test_several_gaps(self):
        self.many("(?a + ?b) -> (?b + ?a) where a number, b number", 9)
        self.many("(?a + ?b) -> (?b + ?a) where a number, b quiet", 12)
        self.many("(?a + ?b) -> (?b + ?a) where a number", 18)
        self.many("(let x = ?a in ?b[x]) -> ?b[?a] where a number", 21)
        self.many("(let x = ?a in ?b[x]) -> (let y = ?a in ?b[y])", 42)
        self.many("(?a ; (?b ; ?c)) -> ((?a ; ?b) ; ?c) where a quiet, b quiet, c quiet", 64)

    def test_more_than_a_hundred(self):
        self.many("(?a ; (?b ; ?c)) -> ((?a ; ?b) ; ?c) where a quiet, b quiet", 96)
        self.many("(?a ; (?b ; ?c)) -> ((?a ; ?b) ; ?c) where a number, b quiet", 72)
        self.many("(?a ; (?b ; ?c)) -> ((?a ; ?b) ; ?c) where a number", 100)
        self.many("(?a ; (?b ; ?c)) -> ((?a ; ?b) ; ?c)", 100)
        self.many("((?a ; (?b ; ?c)) ; (?d ; ?e)) -> (((?a ; ?b) ; (?c ; ?d)) ; ?e)", 100)
        # Each filling with a as 2 parts the sides, and each of them comes behind the hundredth.
        kinds = " where a number, b number, c number, d number, e number"
        left = "((?a ; (?b + ?c)) ; (?d + ?e))"
        self.many(left + " -> (if (?a - 2) then (?d + ?e) else 9)" + kinds, 100)
        self.parted(left + " -> (if (?a - 1) then (?d + ?e) else 9)" + kinds,
                    a=("num", 1), b=("num", 0), c=("num", 0), d=("num", 0), e=("num", 0))

    def test_the_hundredth_and_the_one_behind_it(self):
        # Five numbers by threes: 99 is 10200, 100 is 10201.
        kinds = " where a number, b number, c number, d number, e number"
        left = "((((?a + (?b * 3)) + (?c * 9)) + (?d * 27)) + (?e * 81))"
        right = "(if ((((?e + (?d * 3)) + (?c * 9)) + (?b * 27)) + ((?a * 81) - @)) then " + left + " else (0 - 1))"
        self.parted(left + " -> " + right.replace("@", "99") + kinds,
                    a=("num", 1), b=("num", 0), c=("num", 2), d=("num", 0), e=("num", 0))
        self.many(left + " -> " + right.replace("@", "100") + kinds, 100)

    def test_the_first_that_parts(self):
        self.parted("(?a + 1) -> ?a", a=("num", 0))
        self.parted("(?a + ?a) -> ?a", a=("num", 1))
        self.parted("(?a * ?a) -> ?a", a=("num", 2))
        self.parted("(?a * 0) -> 0", a=("ask", "q"))
        self.parted("(if ?a then (?a * (?a - 1)) else 0) -> (if (?a * (?a - 1)) then (if (?a - 2) then 7 else 2) else 0)",
                    a=("name", "q"))
        self.parted("(?a + (?a * 0)) -> (?a + 0)", a=("ask", "q"))
        self.parted("((say 0) ; ?a) -> (?a ; (say 0))", a=("num", 1))
        self.parted("((say 0) ; (?a ; 0)) -> (?a ; (say 0))", a=("ask", "q"))
        self.parted("(let x = 3 in ?a[x]) -> ?a[4] where a quiet", a=HOLE)
        self.parted("(let x = 3 in (let y = 4 in ?a[x y])) -> ?a[3 5]", a=("hole", 1))
        self.parted("((ask q) ; (?a ; 0)) -> (?a ; ((ask q) ; 0))", a=("stop", "q"))

    def test_the_last_gap_in_the_order_of_texts_changes_fastest(self):
        self.parted("(?b + ?a) -> (?b - ?a) where a number, b number", a=("num", 1), b=("num", 0))
        self.parted("(?a + ?b) -> (?a - ?b) where a number, b number", a=("num", 0), b=("num", 1))
        self.parted("(?b + ?ab) -> (if ?b then (?ab * ?b) else ?ab) where ab number, b number",
                    ab=("num", 0), b=("num", 1))
        self.parted("(?z + (?m + ?a)) -> (?m + ?z) where a number, m number, z number",
                    a=("num", 1), m=("num", 0), z=("num", 0))

    def test_known_and_asked(self):
        self.many("(?a + ?a) -> (?a * 2) where a quiet", 4)
        self.many("(if (?a * ((?a - 1) * (?a - 2))) then ?a else 5) -> 5 where a quiet", 4)
        self.parted("(if (?a * ((?a - 1) * (?a - 2))) then ?a else 5) -> 6 where a quiet", a=("num", 0))
        self.many("((ask q) ; 7) -> (ask q)", 1)
        self.parted("((ask q) ; 5) -> (ask q)")
        self.parted("((ask w) ; 7) -> (ask w)")
        self.many("((ask w) ; 0) -> (ask w)", 1)

    def test_a_let_that_would_catch_q(self):
        self.many("(let q = 3 in ?a) -> ?a", 6)
        self.many("(let q = 3 in ?a[q]) -> ?a[3]", 7)
        self.parted("(let q = 3 in ?a[q]) -> ?a[5]", a=HOLE)

    def test_names_of_pieces(self):
        texts = ["(let x = 3 in ?a[x]) -> ?a[4]", "(let x = 3 in (let q = 4 in ?a[x q])) -> ?a[3 5]",
                 "(let x = 1 in (let y = 2 in (let z = 3 in ?a[x y z]))) -> ?a[1 2 4]"]
        for many, text in enumerate(texts, start=1):
            names, tree = tried(rule_of(text))[1]["a"]
            self.assertEqual(len(names), many)
            self.assertEqual(len(set(names)), many)
            self.assertEqual(tree, ("name", names[-1]))
            self.assertTrue(all(1 <= len(word) <= 8 and word not in KEPT_WORDS + ("q",) for word in names))

    def test_the_filling_is_told_whole_and_the_askers_own(self):
        rule = rule_of("((?a + 1) + (?b ; ?c)) -> (?a + ?c)")
        told = tried(rule)
        self.assertEqual(sorted(told[1]), ["a", "b", "c"])
        told[1].clear()
        self.assertEqual(sorted(tried(rule)[1]), ["a", "b", "c"])

    def test_many_rules(self):
        chance = random.Random(101)
        shapes = chance_shapes(102, 900, depth=2)
        seen = {"tried": 0, "parted": 0}
        for number, left in enumerate(shapes):
            right = chance.choice([shapes[number - 1], ("add", left, ("num", 0)), ("then", left, left), ("num", 0)])
            kinds = tuple((gap, chance.choice(["quiet", "number"])) for gap in "abn" if chance.random() < 0.5)
            rule = (left, right, tuple(pair for pair in kinds if pair[0] in gaps_of(left)))
            if is_rule(rule):
                told = tried(rule)
                self.assertEqual(nameless_told(told), expected_tried(rule))
                seen[told[0]] += 1
        self.assertGreater(min(seen.values()), 50)


if __name__ == "__main__":
    unittest.main()
