import copy
import random
import unittest

from recastle.errors import NoScale, RecastError
from recastle.reads import read, read_rule
from recastle.rules import gaps_of
from recastle.worth import falls, worth
from tests.helper import LEAVES, NO_SCALES, SCALES, chance_shapes, chance_trees, say_chain, wide_tree

FULL = SCALES[-1]


def reckoned(tree, scale, gaps):
    """The worth where each gap is worth what gaps tell."""
    if tree[0] == "gap":
        return gaps.get(tree[1], 1)
    if tree[0] in ("num", "name", "ask", "stop"):
        return 1
    inner = tree[2:] if tree[0] == "let" else tree[1:]
    row = scale.get(tree[0], (1,) * (len(inner) + 1))
    return row[0] + sum(times * reckoned(part, scale, gaps) for times, part in zip(row[1:], inner))


def falls_at_all(rule, scale):
    """Whether left is worth more at a row of fillings: all ones, and each gap by itself worth much."""
    free = [gap for gap in set(gaps_of(rule[0])) | set(gaps_of(rule[1])) if (gap, "number") not in rule[2]]
    tries = [{}] + [{gap: 10 ** 9} for gap in free]
    return all(reckoned(rule[0], scale, gaps) > reckoned(rule[1], scale, gaps) for gaps in tries)


class WorthTest(unittest.TestCase):
    def test_leaves_and_gaps(self):
        for leaf in LEAVES:
            for scale in SCALES:
                self.assertEqual(worth(leaf, scale), 1)

    def test_without_a_scale_it_is_the_size(self):
        for text, expected in [
            ("(say 1)", 2), ("(1 + 2)", 3), ("(1 - 2)", 3), ("(1 * 2)", 3), ("(1 ; 2)", 3),
            ("(if 1 then 2 else 3)", 4), ("(let x = 1 in 2)", 3), ("(say (say (?a + ?b[x y])))", 5),
        ]:
            self.assertEqual(worth(read(text), {}), expected)

    def test_each_sign_by_hand(self):
        two = "(1 + 1)"
        for text, expected in [
            ("(say @)", 2 + 1 * 6),
            ("(@ + 1)", 3 + 1 * 6 + 2),
            ("(1 + @)", 3 + 1 + 2 * 6),
            ("(@ - 1)", 4 + 2 * 6 + 1),
            ("(1 - @)", 4 + 2 + 1 * 6),
            ("(@ * 1)", 5 + 1 * 6 + 3),
            ("(1 * @)", 5 + 1 + 3 * 6),
            ("(@ ; 1)", 6 + 3 * 6 + 1),
            ("(1 ; @)", 6 + 3 + 1 * 6),
            ("(if @ then 1 else 1)", 7 + 1 * 6 + 2 + 3),
            ("(if 1 then @ else 1)", 7 + 1 + 2 * 6 + 3),
            ("(if 1 then 1 else @)", 7 + 1 + 2 + 3 * 6),
            ("(let x = @ in 1)", 8 + 2 * 6 + 3),
            ("(let x = 1 in @)", 8 + 2 + 3 * 6),
            ("@", 6),
        ]:
            with self.subTest(text):
                self.assertEqual(worth(read(text.replace("@", two)), FULL), expected)

    def test_signs_that_the_scale_lacks_have_ones(self):
        scale = {"say": (9, 3)}
        self.assertEqual(worth(read("(say (1 + 2))"), scale), 9 + 3 * 3)
        self.assertEqual(worth(read("((say 1) + (say x))"), scale), 1 + 12 + 12)

    def test_many_trees(self):
        for tree in chance_trees(51, 300):
            for scale in SCALES:
                handed_in = dict(scale)
                self.assertEqual(worth(tree, scale), reckoned(tree, scale, {}))
                self.assertEqual(scale, handed_in)

    def test_great_trees(self):
        self.assertEqual(worth(say_chain(230, ("num", 1)), {}), 231)
        self.assertEqual(worth(wide_tree([("num", 1)] * 100), {"then": (1, 1, 2)}), 1 + 99 * 3)
        self.assertEqual(worth(say_chain(199, ("num", 1)), {"say": (1, 3)}), (3 ** 200 - 1) // 2)


class FallsTest(unittest.TestCase):
    def told(self, text, scale, expected):
        with self.subTest(text):
            self.assertIs(falls(read_rule(text), scale), expected)

    def test_by_hand(self):
        for text, expected in [
            ("(?a + 0) -> ?a", True),
            ("(1 + 2) -> 3", True),
            ("(1 + 2) -> (2 + 1)", False),
            ("(1 + 2) -> (say (say (2 + 1)))", False),
            ("(?a + ?b) -> (?b + ?a)", False),
            ("(?a - ?a) -> 0", True),
            ("(say ?a) -> ?a", True),
            ("(say ?a) -> (say ?a)", False),
            ("((?a + ?b) + ?c) -> (?a + (?b + ?c))", False),
            ("((?a * ?c) + (?b * ?c)) -> ((?a + ?b) * ?c)", True),
            ("((?a + ?b) * ?c) -> ((?a * ?c) + (?b * ?c))", False),
            ("(let x = ?a in ?b[x]) -> ?b[?a] where a number", True),
            ("(let x = ?a in ?b[x]) -> ?b[7]", True),
            ("(let x = ?a in ?b[x]) -> (let y = ?a in ?b[y])", False),
        ]:
            self.told(text, {}, expected)

    def test_a_gap_that_comes_more_often_at_the_right(self):
        # With gaps worth 1 left is worth 5 and right 3; worth more, right is ahead.
        self.told("(((1 + 1) + 1) + ?a) -> (?a + ?a)", {}, False)
        self.told("(((1 + 1) + 1) + ?a) -> (?a + ?a) where a quiet", {}, False)
        self.told("(((1 + 1) + 1) + ?a) -> (?a + ?a) where a number", {}, True)
        self.told("((1 + 1) + (?a + ?b)) -> (?a + ?a)", {}, False)
        self.told("(let x = ?a in ?b[x]) -> (?b[1] ; ?b[2])", {"let": (9, 1, 1)}, False)
        self.told("(let x = ?a in ?b[x]) -> (?b[1] ; ?b[2])", {"let": (9, 1, 2)}, True)

    def test_only_where_gaps_are_worth_more_than_one(self):
        self.told("(?a + ?b) -> (say ?b)", {}, True)
        self.told("(?a + ?b) -> (say (say ?b))", {}, False)
        self.told("(?a + ?b) -> (say (say (say ?b)))", {}, False)
        self.told("(?a + ?a) -> (say ?a)", {}, True)
        self.told("(?a + ?a) -> (say (say ?a))", {}, False)
        self.told("(?a + ?a) -> ((1 + 1) + 1)", {}, False)
        self.told("(say ?a) -> (1 + 1)", {"say": (1, 3)}, True)
        self.told("(say ?a) -> ((1 + 1) + 1)", {"say": (1, 3)}, False)

    def test_numbers_are_worth_one(self):
        self.told("(?a + ?b) -> (say (say ?b)) where a number", {}, False)
        self.told("(?a + ?b) -> (say ?b) where a number, b number", {}, True)
        self.told("(say (say ?n)) -> (?n + ?n) where n number", {}, False)
        self.told("(say (say (say ?n))) -> (?n + ?n) where n number", {}, True)
        self.told("(say (say (say ?n))) -> (?n + ?n)", {}, False)

    def test_by_a_scale(self):
        distribute = "((?a + ?b) * ?c) -> ((?a * ?c) + (?b * ?c))"
        self.told(distribute, {}, False)
        self.told(distribute, {"mul": (1, 2, 2)}, False)
        nest = "((?a + ?b) + ?c) -> (?a + (?b + ?c))"
        self.told(nest, {"add": (1, 2, 1)}, True)
        self.told(nest, {"add": (1, 1, 2)}, False)
        self.told("(?a ; ?b) -> (?b + ?a)", {"then": (2, 1, 1)}, True)
        self.told("(?a ; ?b) -> (?b + ?a)", {"then": (2, 1, 1), "add": (2, 1, 1)}, False)
        self.told("(?a ; ?b) -> (?b + ?a)", {"then": (2, 1, 1), "add": (1, 2, 1)}, False)
        self.told("(?a ; ?b) -> (?b + ?a)", {"then": (9, 2, 3), "add": (1, 3, 2)}, True)

    def test_atoms_are_worth_nothing_by_themselves(self):
        self.told("((let x = ?a in ?b[x]) + ?n) -> ?b[?n] where n number", {}, True)
        self.told("((let x = ?a in (let y = ?n in ?b[x y])) + 0) -> (say ?b[?n ?n]) where n number", {}, True)

    def test_many_rules(self):
        chance = random.Random(52)
        shapes = chance_shapes(53, 3000, depth=2)
        told = {True: 0, False: 0}
        for number in range(0, 3000, 2):
            kinds = chance.choice([(), (("a", "number"),), (("a", "quiet"), ("n", "number"))])
            rule = (shapes[number], shapes[number + 1], kinds)
            for scale in SCALES:
                expected = falls_at_all(rule, scale)
                self.assertIs(falls(rule, scale), expected)
                told[expected] += 1
        self.assertGreater(min(told.values()), 500)


class NoScaleTest(unittest.TestCase):
    def test_refused(self):
        rule = read_rule("(?a + 0) -> ?a")
        for scale in NO_SCALES:
            with self.subTest(scale):
                handed_in = copy.deepcopy(scale)
                for tree in [read("1"), read("(say (1 + x))")]:
                    with self.assertRaises(NoScale) as caught:
                        worth(tree, scale)
                    self.assertIsInstance(caught.exception, RecastError)
                with self.assertRaises(NoScale):
                    falls(rule, scale)
                self.assertEqual(scale, handed_in)

    def test_refused_where_left_is_not_ahead(self):
        with self.assertRaises(NoScale):
            falls(read_rule("(1 + 2) -> (1 + 2)"), {"say": (0, 1)})

    def test_edges(self):
        for own in range(1, 10):
            for times in range(1, 4):
                self.assertEqual(worth(read("(say 1)"), {"say": (own, times)}), own + times)


if __name__ == "__main__":
    unittest.main()
