import random
import unittest

from recastle.errors import NoPair, NoRule, RecastError
from recastle.fits import fit, filled
from recastle.names import KEPT_WORDS
from recastle.reading import read_off
from recastle.reads import read, read_rule
from recastle.rules import form, is_quiet
from recastle.trees import size
from recastle.turns import step
from tests.helper import (
    chance_of_kind, chance_pairs, chance_plain_rules, gap_words, is_rule, rule_called_alike, say_chain, wide_tree,
)


def pairs_of(*texts):
    """Pairs, each written as its two programs with an arrow between."""
    return [tuple(read(text) for text in pair.split(" => ")) for pair in texts]


def balanced(trees):
    if len(trees) == 1:
        return trees[0]
    half = len(trees) // 2
    return ("add", balanced(trees[:half]), balanced(trees[half:]))


def expected_rule(pairs):
    """By recursion, gaps told by the rows of parts that they stand for."""
    def shape(trees):
        heads = {(tree[0],) + tuple(part for part in tree[1:] if not isinstance(part, tuple)) for tree in trees}
        if len(heads) > 1 or trees[0][0] == "name":
            return ("gap", trees, ())
        inner = [tuple(tree[at] for tree in trees) for at, part in enumerate(trees[0]) if isinstance(part, tuple)]
        return tuple(part for part in trees[0] if not isinstance(part, tuple)) + tuple(shape(row) for row in inner)

    left, right = [shape(tuple(pair[side] for pair in pairs)) for side in (0, 1)]
    kinds = []
    for row in set(gap_words(left)) | set(gap_words(right)):
        if all(tree[0] == "num" for tree in row):
            kinds.append((row, "number"))
        elif all(is_quiet(tree) for tree in row):
            kinds.append((row, "quiet"))
    return (left, right, kinds)


class ReadOffTest(unittest.TestCase):
    def reads(self, text, *pairs):
        with self.subTest(text):
            handed_in = pairs_of(*pairs)
            rule = read_off(handed_in)
            self.assertEqual(handed_in, pairs_of(*pairs))
            self.assertEqual(rule_called_alike(rule), rule_called_alike(read_rule(text)))
            self.holds(rule, handed_in)

    def holds(self, rule, pairs):
        form(rule)
        self.assertEqual(list(rule[2]), sorted(dict(rule[2]).items()))
        for before, behind in pairs:
            self.assertEqual(step(rule, before, ()), behind)

    def refused(self, why, *pairs):
        with self.subTest(pairs):
            with self.assertRaises(NoRule) as caught:
                read_off(pairs_of(*pairs))
            self.assertEqual(caught.exception.why, why)
            self.assertIsInstance(caught.exception, RecastError)

    def test_one_pair(self):
        self.reads("(1 + 2) -> 3", "(1 + 2) => 3")
        self.reads("(?a + 0) -> ?a where a quiet", "(x + 0) => x")
        self.reads("(?a + ?b) -> (?b + ?a) where a quiet, b quiet", "(x + y) => (y + x)")
        self.reads("((say 1) ; (ask w)) -> (stop w)", "((say 1) ; (ask w)) => (stop w)")
        self.reads("(?a + ?a) -> (?a * 2) where a quiet", "(x + x) => (x * 2)")
        self.reads("(if ?a then (?b - 1) else (ask w)) -> ?b where a quiet, b quiet", "(if x then (y - 1) else (ask w)) => y")

    def test_several_pairs(self):
        self.reads("(?a + 0) -> ?a where a number", "(1 + 0) => 1", "(2 + 0) => 2")
        self.reads("(?a + 0) -> ?a where a quiet", "(1 + 0) => 1", "(x + 0) => x")
        self.reads("(?a + 0) -> ?a", "(1 + 0) => 1", "((ask w) + 0) => (ask w)")
        self.reads("(?a + ?b) -> (?b + ?a) where a number, b quiet", "(1 + x) => (x + 1)", "(2 + (3 * 4)) => ((3 * 4) + 2)")
        self.reads("(?a ; (say ?b)) -> (say ?b) where a quiet", "(1 ; (say (ask w))) => (say (ask w))",
                   "((x - 2) ; (say 5)) => (say 5)")

    def test_as_special_as_can_be(self):
        self.reads("(?a + 0) -> ?a where a number", *[f"({n} + 0) => {n}" for n in range(8)])
        self.reads("((?a - 1) + 0) -> (?a - 1) where a number", "((3 - 1) + 0) => (3 - 1)", "((4 - 1) + 0) => (4 - 1)")
        self.reads("((?a - 1) + 0) -> (?a - 1) where a quiet", "((3 - 1) + 0) => (3 - 1)", "((x - 1) + 0) => (x - 1)")
        # The same number in both, so that it stands there.
        self.reads("(?a + 7) -> 7 where a number", "(1 + 7) => 7", "(2 + 7) => 7")
        # The same row of parts, so that it is the same gap.
        self.reads("(?a + (?a * ?b)) -> ?a where a number, b number", "(1 + (1 * 2)) => 1", "(3 + (3 * 5)) => 3")
        self.reads("(?a + ?b) -> ?a where a number, b number", "(1 + 1) => 1", "(3 + 4) => 3")
        self.reads("(?a + ?b) -> ?b where a number, b number", "(1 + 2) => 2", "(2 + 1) => 1")
        self.reads("((say ?a) + ?b) -> ?a where a quiet, b number", "((say 1) + 1) => 1", "((say x) + 2) => x")

    def test_words_of_asks_and_stops(self):
        self.reads("(1 + (ask w)) -> (ask w)", "(1 + (ask w)) => (ask w)", "(1 + (ask w)) => (ask w)")
        self.reads("(1 + ?a) -> ?a", "(1 + (ask w)) => (ask w)", "(1 + (ask v)) => (ask v)")
        self.reads("(1 + ?a) -> ?a", "(1 + (stop w)) => (stop w)", "(1 + (ask w)) => (ask w)")
        self.reads("(1 + ?a) -> ?a", "(1 + (stop w)) => (stop w)", "(1 + (stop v)) => (stop v)")

    def test_names_that_stand_in_all_pairs(self):
        self.reads("(?a + ?b) -> ?a where a quiet, b number", "(x + 1) => x", "(x + 2) => x")
        self.reads("(?a + 1) -> ?a where a quiet", "(x + 1) => x", "(x + 1) => x")
        self.reads("(?a + ?b) -> ?b where a quiet, b quiet", "(x + y) => y", "(x + x) => x")
        self.reads("(?a + ?a) -> ?a where a quiet", "(x + x) => x", "(y + y) => y")
        self.reads("(say (?a ; ?b)) -> ?b where a quiet, b quiet", "(say (x ; y)) => y")

    def test_gaps_that_only_one_side_has(self):
        self.reads("(?a + ?b) -> ?b where a number, b number", "(1 + 5) => 5", "(2 + 6) => 6")
        self.refused("gap", "(1 + 5) => 5", "(1 + 5) => 6")
        self.refused("gap", "(1 + 2) => x")
        self.refused("gap", "(1 + 2) => 3", "(2 + 2) => 4")
        self.refused("gap", "(1 + x) => (y + x)")

    def test_no_rule(self):
        self.refused("leaf", "1 => 2")
        self.refused("leaf", "x => x")
        self.refused("leaf", "(ask w) => (ask w)")
        self.refused("leaf", "(stop w) => 1", "(stop w) => 1")
        self.refused("leaf", "(1 + 2) => 3", "(1 - 2) => 3")
        self.refused("leaf", "(1 + 2) => (say x)", "(say 1) => (say x)")
        self.refused("loud", "(1 + 2) => (say 3)")
        self.refused("loud", "(x + 2) => ((ask w) ; x)", "(y + 2) => ((ask w) ; y)")
        # A gap that the left lacks goes ahead of one that is loud.
        self.refused("gap", "(1 + 2) => (say x)")
        self.reads("(?a + ?b) -> ?b where a number", "(1 + (say 2)) => (say 2)", "(2 + (ask w)) => (ask w)")

    def test_kinds(self):
        self.reads("(?a ; ?b) -> ?b where b number", "((say 1) ; 1) => 1", "(2 ; 2) => 2")
        self.reads("(?a ; ?b) -> ?b where a quiet", "((1 + x) ; (say 1)) => (say 1)", "(2 ; 2) => 2")
        self.reads("(?a ; ?b) -> ?b where a number, b quiet", "(3 ; (x + 1)) => (x + 1)", "(2 ; 2) => 2")
        self.reads("(?a ; 5) -> 5", "((1 + (stop w)) ; 5) => 5", "(2 ; 5) => 5")

    def test_kinds_in_the_order_of_texts(self):
        before = wide_tree([("num", number) for number in range(20)])
        behind = wide_tree([("num", number + 1) for number in range(20)])
        rule = read_off([(before, ("num", 7)), (behind, ("num", 7))])
        self.assertEqual([kind for word, kind in rule[2]], ["number"] * 20)
        self.holds(rule, [(before, ("num", 7)), (behind, ("num", 7))])

    def test_no_pair(self):
        one = "(1 + 2) => 3"
        for pairs in [[], [one] * 9, [one] * 10, ["(let x = 1 in x) => 1"], ["(1 + 2) => (let x = 3 in x)"],
                      [one, "(1 + (say (let x = 1 in 2))) => 3"], [one] * 7 + ["(1 + 2) => (4 ; (let y = 3 in 3))"],
                      ["1 => (let x = 3 in x)"], ["1 => 2"] * 9]:
            with self.subTest(pairs), self.assertRaises(NoPair) as caught:
                read_off(pairs_of(*pairs))
            self.assertIsInstance(caught.exception, RecastError)
        self.reads("(1 + 2) -> 3", *[one] * 8)
        self.reads("(1 + 2) -> 3", *[one] * 7)

    def test_gaps_are_words(self):
        # So many that two letters come to words that are kept.
        one = balanced([("num", number) for number in range(300)])
        other = balanced([("num", number + 1) for number in range(300)])
        for pairs, many, kind in [
            ([(one, ("num", 1)), (other, ("num", 1))], 300, "number"),
            ([(balanced([("name", 3 * letter) for letter in "abcdefghijklmnopqrstuvwxyz"]), ("num", 1))], 26, "quiet"),
        ]:
            rule = read_off(pairs)
            words = gap_words(rule[0])
            self.assertEqual(len(set(words)), many)
            self.assertTrue(all(1 <= len(word) <= 8 and word.isalpha() and word not in KEPT_WORDS for word in words))
            self.assertEqual([told for word, told in rule[2]], [kind] * many)
            self.holds(rule, pairs)

    def test_great_programs(self):
        deep = say_chain(199, ("name", "x"))
        rule = read_off([(deep, ("name", "x"))])
        self.assertEqual((size(rule[0]), rule[1][0]), (200, "gap"))
        self.holds(rule, [(deep, ("name", "x"))])
        rule = read_off([(("say", deep), deep), (("say", ("num", 1)), ("num", 1))])
        self.assertEqual(rule_called_alike(rule), rule_called_alike(read_rule("(say ?a) -> ?a")))
        same_twice = ("add", deep, say_chain(199, ("name", "x")))
        rule = read_off([(same_twice, ("num", 1)), (("add", ("num", 2), ("num", 2)), ("num", 1))])
        self.assertEqual(rule_called_alike(rule), rule_called_alike(read_rule("(?a + ?a) -> 1")))

    def test_pairs_by_chance(self):
        chance = random.Random(151)
        read_many = 0
        for turn in range(600):
            wanted = chance_plain_rules(chance, 1, is_rule, depth=chance.choice([2, 3]))[0]
            pairs = chance_pairs(chance, wanted, chance.choice([1, 2, 2, 3, 8]))
            rule = read_off(pairs)
            self.assertEqual(rule_called_alike(rule), rule_called_alike(expected_rule(pairs)))
            self.holds(rule, pairs)
            # It is made of the rule that did the same, which is thus no more special.
            filling = fit(wanted, rule[0], rule[2])
            self.assertIsNotNone(filling)
            self.assertEqual(filled(wanted[1], filling), rule[1])
            read_many += 1
        self.assertEqual(read_many, 600)

    def test_programs_by_chance(self):
        chance = random.Random(152)
        seen = {"rule": 0, "leaf": 0, "gap": 0, "loud": 0}
        for turn in range(1500):
            before = chance_of_kind(chance, chance.choice([None, "quiet"]), 2)
            pairs = []
            for number in range(chance.choice([1, 2])):
                pairs.append((before if chance.random() < 0.6 else chance_of_kind(chance, None, 2),
                              chance.choice([chance_of_kind(chance, None, 1), before[-1], ("say", ("num", 0))])))
            pairs = [pair for pair in pairs if all(isinstance(side, tuple) for side in pair)]
            if not pairs:
                continue
            expected = expected_rule(pairs)
            try:
                form(expected)
            except NoRule as refusal:
                with self.assertRaises(NoRule) as caught:
                    read_off(pairs)
                self.assertEqual(caught.exception.why, refusal.why)
                seen[refusal.why] += 1
                continue
            self.assertEqual(rule_called_alike(read_off(pairs)), rule_called_alike(expected))
            self.holds(read_off(pairs), pairs)
            seen["rule"] += 1
        self.assertGreater(min(seen.values()), 20)


if __name__ == "__main__":
    unittest.main()
