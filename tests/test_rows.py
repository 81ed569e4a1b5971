import random
import unittest

from recastle.errors import NoFall, NoPlace, NoScale, RecastError, TooGreat
from recastle.names import alike
from recastle.reads import read
from recastle.rows import is_row, same
from recastle.trees import places
from recastle.turns import step, steps, turned
from recastle.worth import worth
from tests.helper import NO_SCALES, chance_programs, nameless, rules, say_chain, wide_tree

TEXTS = [
    "(?a + 0) -> ?a",
    "(?a ; ?b) -> ?b where a quiet",
    "(let x = ?a in ?b[x]) -> ?b[?a] where a number",
    "((let x = ?a in ?b[x]) + ?c) -> (let x = ?a in (?b[x] + ?c))",
]
SCALE = {"add": (1, 2, 1)}
NO_NUMBERS = [-1, -4, 4, 5, 100, 10 ** 30, True, False, None, "0", (), (0,)]


RULES = rules(*TEXTS)


def row_of(*told):
    return [(number, place, way, read(text)) for number, place, way, text in told]


def is_expected_row(found, begin, row, end, kinds=None):
    """By the words: each tree against the one ahead of it, all names told by their lets."""
    ahead = begin
    for number, place, way, tree in row:
        if number.__class__ is not int or number not in range(len(found)) or way not in ("on", "back"):
            return False
        before, behind = (ahead, tree) if way == "on" else (tree, ahead)
        if place not in places(before):
            return False
        stepped = step(found[number], before, place, kinds)
        if stepped is None or nameless(stepped) != nameless(behind):
            return False
        ahead = tree
    return nameless(ahead) == nameless(end)


class IsRowTest(unittest.TestCase):
    def told(self, begin, row, end, expected, kinds=None, found=RULES):
        with self.subTest(begin=begin, row=row, end=end):
            handed_in = list(row)
            self.assertIs(is_row(found, read(begin), row, read(end), kinds), expected)
            self.assertEqual(row, handed_in)
            self.assertIs(is_expected_row(found, read(begin), row, read(end), kinds), expected)

    def test_no_step(self):
        self.told("(x + 1)", [], "(x + 1)", True)
        self.told("(x + 1)", [], "(x + 2)", False)
        self.told("(let x = 1 in x)", [], "(let y = 1 in y)", True)
        self.told("(let x = 1 in x)", [], "(let y = 1 in x)", False)
        self.assertIs(is_row([], read("x"), [], read("x")), True)
        self.assertIs(is_row([], read("x"), [], read("y")), False)

    def test_on(self):
        self.told("((x + 0) * 2)", row_of((0, (0,), "on", "(x * 2)")), "(x * 2)", True)
        self.told("((x + 0) * 2)", row_of((0, (0,), "on", "(x * 2)")), "(x * 3)", False)
        self.told("((x + 0) * 2)", row_of((0, (0,), "on", "(x * 3)")), "(x * 3)", False)
        self.told("((x + 0) * 2)", row_of((0, (0,), "back", "(x * 2)")), "(x * 2)", False)
        self.told("((x + 0) * (y + 0))", row_of((0, (1,), "on", "((x + 0) * y)"), (0, (0,), "on", "(x * y)")),
                  "(x * y)", True)
        self.told("((x + 0) * (y + 0))", row_of((0, (0,), "on", "((x + 0) * y)"), (0, (0,), "on", "(x * y)")),
                  "(x * y)", False)

    def test_back(self):
        self.told("(x * 2)", row_of((0, (0,), "back", "((x + 0) * 2)")), "((x + 0) * 2)", True)
        self.told("(x * 2)", row_of((0, (0,), "on", "((x + 0) * 2)")), "((x + 0) * 2)", False)
        self.told("(x * 2)", row_of((0, (0,), "back", "((y + 0) * 2)")), "((y + 0) * 2)", False)
        self.told("5", row_of((1, (), "back", "((x - y) ; 5)")), "((x - y) ; 5)", True)
        self.told("5", row_of((1, (), "back", "((say y) ; 5)")), "((say y) ; 5)", False)

    def test_on_and_back(self):
        row = row_of((0, (0,), "on", "(x ; y)"), (1, (), "on", "y"), (0, (), "back", "(y + 0)"),
                     (1, (0,), "back", "((3 ; y) + 0)"), (0, (), "on", "(3 ; y)"))
        self.told("((x + 0) ; y)", row, "(3 ; y)", True)
        self.told("((x + 0) ; y)", row[:-1], "(3 ; y)", False)
        self.told("((x + 0) ; y)", row[:-1], "((3 ; y) + 0)", True)
        self.told("((x + 0) ; y)", row[1:], "(3 ; y)", True)
        self.told("((x + 0) ; y)", row[2:], "(3 ; y)", False)
        self.told("((x + 0) ; y)", row[:2] + row[3:], "(3 ; y)", False)
        self.told("(3 ; y)", row, "((x + 0) ; y)", False)

    def test_a_wrong_step_in_the_midst(self):
        right = row_of((0, (0,), "on", "(x ; y)"), (1, (), "on", "y"), (0, (), "back", "(y + 0)"))
        self.told("((x + 0) ; y)", right, "(y + 0)", True)
        for at in range(3):
            for change in [(0, 3), (1, (2,)), (2, "out"), (3, ("num", 8))]:
                row = list(right)
                row[at] = row[at][:change[0]] + (change[1],) + row[at][change[0] + 1:]
                self.told("((x + 0) ; y)", row, "(y + 0)", False)

    def test_numbers_that_no_rule_has(self):
        for number in NO_NUMBERS:
            self.told("(x + 0)", [(number, (), "on", read("x"))], "x", False)
            self.told("x", [(number, (), "back", read("(x + 0)"))], "(x + 0)", False)
        # True would be the number of the second rule, and -1 that of the last one.
        self.told("(2 ; y)", row_of((1, (), "on", "y")), "y", True)
        self.told("(2 ; y)", [(True, (), "on", read("y"))], "y", False)
        self.told("(2 ; y)", [(-3, (), "on", read("y"))], "y", False)
        self.told("(x + 0)", [(False, (), "on", read("x"))], "x", False)

    def test_places_that_are_not_there(self):
        for place in [(2,), (-1,), (-2,), (0, 0), (1, 0), (5, 5)]:
            self.told("(x + 0)", [(0, place, "on", read("x"))], "x", False)
            self.told("x", [(0, place, "back", read("(x + 0)"))], "(x + 0)", False)
        # The place is one of the tree that is turned, not of the other.
        self.told("(x ; (y + 0))", row_of((0, (1,), "on", "(x ; y)")), "(x ; y)", True)
        self.told("(x ; (y + 0))", row_of((0, (-1,), "on", "(x ; y)")), "(x ; y)", False)
        self.told("x", row_of((0, (0,), "back", "((x + 0) + 0)")), "((x + 0) + 0)", False)
        self.told("(x + 0)", row_of((0, (0,), "back", "((x + 0) + 0)")), "((x + 0) + 0)", True)

    def test_a_truth_in_a_place(self):
        self.assertIs(is_row(RULES, read("((x + 0) ; y)"), [(0, (False,), "on", read("(x ; y)"))], read("(x ; y)")), False)

    def test_other_ways(self):
        for way in ["", "On", "ON", "of", "forth", "on ", "backwards", "inner", "outer"]:
            self.told("(x + 0)", [(0, (), way, read("x"))], "x", False)
            self.told("x", [(0, (), way, read("(x + 0)"))], "(x + 0)", False)
            self.told("x", [(0, (), way, read("x"))], "x", False)

    def test_steps_that_are_none(self):
        self.told("(x + 1)", row_of((0, (), "on", "x")), "x", False)
        self.told("(x + 1)", row_of((0, (), "on", "(x + 1)")), "(x + 1)", False)
        self.told("(x + 0)", row_of((1, (), "on", "x")), "x", False)
        self.told("x", row_of((0, (), "back", "(x + 1)")), "(x + 1)", False)
        self.told("x", row_of((0, (), "back", "x")), "x", False)

    def test_bound_names(self):
        self.told("(let x = (ask w) in (x + 0))", row_of((0, (1,), "on", "(let y = (ask w) in y)")),
                  "(let z = (ask w) in z)", True)
        self.told("(let x = (ask w) in (x + 0))", row_of((0, (1,), "on", "(let y = (ask w) in x)")),
                  "(let z = (ask w) in z)", False)
        self.told("((let x = (ask w) in x) + x)", row_of((3, (), "on", "(let n = (ask w) in (n + x))")),
                  "(let m = (ask w) in (m + x))", True)
        self.told("((let x = (ask w) in x) + x)", row_of((3, (), "on", "(let x = (ask w) in (x + x))")),
                  "(let x = (ask w) in (x + x))", False)
        self.told("(let m = (ask w) in (m + x))", row_of((3, (), "back", "((let x = (ask w) in x) + x)")),
                  "((let u = (ask w) in u) + x)", True)
        self.told("(x * x)", row_of((2, (), "back", "(let y = 4 in (x * x))")), "(let x = 4 in (x * x))", False)

    def test_gaps_held_fast(self):
        row = row_of((1, (), "on", "?b"))
        self.told("(?a ; ?b)", row, "?b", False)
        self.told("(?a ; ?b)", row, "?b", False, (("b", "quiet"),))
        self.told("(?a ; ?b)", row, "?b", True, (("a", "quiet"),))
        self.told("(?a ; ?b)", row, "?b", True, (("a", "number"),))
        self.told("(?a ; ?b)", row, "?a", False, (("a", "quiet"),))
        back = row_of((1, (), "back", "(?c ; ?b)"))
        self.told("?b", back, "(?c ; ?b)", True, (("c", "quiet"),))
        self.told("?b", back, "(?c ; ?b)", False)
        self.assertIs(is_row(RULES, read("(?a + 0)"), row_of((0, (), "on", "?a")), read("?a")), True)

    def test_rows_by_chance(self):
        chance = random.Random(131)
        seen = {True: 0, False: 0}
        for begin in chance_programs(132, 150, depth=3):
            row = []
            tree = begin
            for turn in range(chance.randrange(5)):
                found = steps(RULES, tree)
                if found and chance.random() < 0.7:
                    number, place = chance.choice(found)
                    tree = step(RULES[number], tree, place)
                    row.append((number, place, "on", tree))
                else:
                    tree = ("add", tree, ("num", 0))
                    row.append((0, (), "back", tree))
            self.assertIs(is_row(RULES, begin, row, tree), True)
            if row:
                at = chance.randrange(len(row))
                number, place, way, old = row[at]
                row[at] = chance.choice([
                    (chance.randrange(-1, 5), place, way, old), (number, chance.choice(places(begin)), way, old),
                    (number, place, chance.choice(["on", "back"]), old), (number, place, way, begin),
                ])
            expected = is_expected_row(RULES, begin, row, tree)
            seen[expected] += 1
            self.assertIs(is_row(RULES, begin, row, tree), expected)
        self.assertGreater(min(seen.values()), 30)


class SameTest(unittest.TestCase):
    def same(self, one, other, expected, texts=TEXTS, scale=SCALE):
        """Expected: how the row goes, as (number, place, way, text)."""
        found = rules(*texts)
        told = same(found, read(one), read(other), scale)
        self.assertEqual(told, ("same", row_of(*expected)))
        self.assertIsInstance(told[1], list)
        self.assertTrue(is_expected_row(found, read(one), told[1], read(other)))

    def unlike(self, one, other, end, other_end, texts=TEXTS, scale=SCALE):
        self.assertEqual(same(rules(*texts), read(one), read(other), scale), ("unlike", read(end), read(other_end)))

    def test_same(self):
        self.same("x", "x", [])
        self.same("(x + 0)", "x", [(0, (), "on", "x")])
        self.same("x", "(x + 0)", [(0, (), "back", "(x + 0)")])
        self.same("(x + 0)", "(y ; x)", [(0, (), "on", "x"), (1, (), "back", "(y ; x)")])
        self.same("((x + 0) ; (y + 0))", "((y + 0) + 0)", [
            (0, (0,), "on", "(x ; (y + 0))"), (0, (1,), "on", "(x ; y)"), (1, (), "on", "y"),
            (0, (), "back", "(y + 0)"), (0, (0,), "back", "((y + 0) + 0)")])

    def test_unlike(self):
        self.unlike("x", "y", "x", "y")
        self.unlike("(x + 0)", "((say 1) ; x)", "x", "((say 1) ; x)")
        self.unlike("(say x)", "x", "(say x)", "x", [])
        self.unlike("(2 ; (x + 1))", "(x + (2 + 0))", "(x + 1)", "(x + 2)")

    def test_but_for_bound_names(self):
        told = same(RULES, read("(let x = (ask w) in x)"), read("(let y = (ask w) in y)"), SCALE)
        self.assertEqual(told, ("same", []))
        told = same(RULES, read("(let x = (ask w) in (x + 0))"), read("(let y = (ask w) in (3 ; y))"), SCALE)
        self.assertEqual(told[0], "same")
        self.assertEqual([row[:3] for row in told[1]], [(0, (1,), "on"), (1, (1,), "back")])
        self.assertTrue(is_row(RULES, read("(let x = (ask w) in (x + 0))"), told[1], read("(let y = (ask w) in (3 ; y))")))
        self.assertEqual(same(RULES, read("(let x = (ask w) in x)"), read("(let x = (ask w) in y)"), SCALE)[0], "unlike")

    def test_without_rules(self):
        self.assertEqual(same([], read("x"), read("x"), {}), ("same", []))
        self.assertEqual(same([], read("x"), read("y"), {}), ("unlike", read("x"), read("y")))

    def test_ends_by_inner(self):
        # By outer, both would end alike.
        self.unlike("(say (say 1))", "1", "(say 2)", "1", ["(say (say ?a)) -> ?a", "(say 1) -> 2"], {})

    def test_programs_by_chance(self):
        chance = random.Random(133)
        seen = {"same": 0, "unlike": 0}
        for one in chance_programs(134, 200, depth=3):
            other = one
            for turn in range(chance.randrange(3)):
                found = steps(RULES, other)
                if found and chance.random() < 0.5:
                    number, place = chance.choice(found)
                    other = step(RULES[number], other, place)
                else:
                    other = chance.choice([("add", other, ("num", 0)), ("then", ("name", "x"), other), ("say", other)])
            if max(worth(one, SCALE), worth(other, SCALE)) > 200:
                continue
            told = same(RULES, one, other, SCALE)
            ends = [turned(RULES, tree, SCALE)[0] for tree in (one, other)]
            seen[told[0]] += 1
            if alike(ends[0], ends[1]):
                self.assertEqual(told[0], "same")
                self.assertTrue(is_expected_row(RULES, one, told[1], other))
                self.assertTrue(is_row(RULES, one, told[1], other))
            else:
                self.assertEqual(told, ("unlike", ends[0], ends[1]))
        self.assertGreater(min(seen.values()), 20)

    def test_nothing_handed_in_is_changed(self):
        found = list(RULES)
        scale = dict(SCALE)
        same(found, read("(x + 0)"), read("x"), scale)[1].clear()
        self.assertEqual(same(found, read("(x + 0)"), read("x"), scale)[1], row_of((0, (), "on", "x")))
        self.assertEqual((found, scale), (RULES, SCALE))


class RefusedTest(unittest.TestCase):
    GREAT = say_chain(200, ("num", 1))
    RISING = "(?a + ?b) -> (?b + ?a)"

    def refused(self, error, texts, one, other, scale):
        with self.assertRaises(error) as caught:
            same(rules(*texts), one, other, scale)
        self.assertIs(caught.exception.__class__, error)
        self.assertIsInstance(caught.exception, RecastError)
        self.assertNotIsInstance(caught.exception, NoPlace)
        return getattr(caught.exception, "number", None)

    def test_no_scale(self):
        for scale in NO_SCALES:
            with self.subTest(scale):
                self.refused(NoScale, [], read("1"), read("1"), scale)
                self.refused(NoScale, TEXTS, read("1"), read("1"), scale)

    def test_no_fall(self):
        self.assertEqual(self.refused(NoFall, [self.RISING], read("1"), read("1"), {}), 0)
        self.assertEqual(self.refused(NoFall, TEXTS[:3] + [self.RISING] * 2, read("1"), read("1"), {}), 3)

    def test_too_great(self):
        least = say_chain(199, ("num", 1))
        self.assertEqual((worth(least, {}), worth(self.GREAT, {})), (200, 201))
        self.assertEqual(same([], least, least, {}), ("same", []))
        self.assertEqual(same([], least, read("1"), {}), ("unlike", least, read("1")))
        self.refused(TooGreat, [], self.GREAT, read("1"), {})
        self.refused(TooGreat, [], read("1"), self.GREAT, {})
        self.refused(TooGreat, [], self.GREAT, self.GREAT, {})
        self.refused(TooGreat, [], least, self.GREAT, {})
        self.refused(TooGreat, [], wide_tree([("num", 1)] * 100), wide_tree([("num", 1)] * 101), {})

    def test_two_that_are_due_at_once(self):
        self.refused(NoScale, [self.RISING], self.GREAT, self.GREAT, {"num": (1,)})
        self.assertEqual(self.refused(NoFall, [self.RISING], self.GREAT, self.GREAT, {}), 0)


if __name__ == "__main__":
    unittest.main()
