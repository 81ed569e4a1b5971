import copy
import random
import unittest

from recastle.errors import NoFall, NoPlace, NoScale, RecastError, TooGreat
from recastle.fits import fit
from recastle.names import free_names
from recastle.reads import read
from recastle.runs import run
from recastle.shows import shown
from recastle.trees import part_at, places
from recastle.turns import step, steps, turned, turned_by
from recastle.worth import worth
from tests.helper import NO_SCALES, chance_programs, nameless, rules, say_chain, wide_tree

# All of them are right: a program runs behind a step as it ran before.
TEXTS = [
    "(?a + 0) -> ?a",
    "(0 * ?a) -> 0 where a quiet",
    "(?a - ?a) -> 0 where a quiet",
    "(?a ; ?b) -> ?b where a quiet",
    "(if 0 then ?a else ?b) -> ?b",
    "(let x = ?a in ?b[x]) -> ?b[?a] where a number",
    "(let x = ?a in ?b) -> (?a ; ?b)",
    "(let x = ?a in (let y = ?b in ?c[x y])) -> (let y = ?a in ?c[y ?b]) where b number",
    "((stop w) + ?a) -> (stop w)",
    "((let x = ?a in ?b[x]) + ?c) -> (let x = ?a in (?b[x] + ?c))",
]
SCALE = {"let": (2, 1, 1), "add": (1, 2, 2)}


RULES = rules(*TEXTS)


def first_innermost(found):
    """By the words: the first step beneath whose place is no step."""
    for number, place in found:
        if not any(len(other) > len(place) and other[:len(place)] == place for rule, other in found):
            return (number, place)


class StepTest(unittest.TestCase):
    def becomes(self, rule, tree, place, expected, kinds=None):
        with self.subTest(rule=rule, tree=tree):
            told = step(rules(rule)[0], read(tree), place, kinds)
            self.assertIsNotNone(told)
            self.assertEqual(nameless(told), nameless(read(expected)))

    def test_by_hand(self):
        self.becomes("(?a + 0) -> ?a", "(x + 0)", (), "x")
        self.becomes("(?a + 0) -> ?a", "((x + 0) + 0)", (), "(x + 0)")
        self.becomes("(?a + 0) -> ?a", "((x + 0) + 0)", (0,), "(x + 0)")
        self.becomes("(?a + 0) -> ?a", "(say (if (x + 0) then 1 else 2))", (0, 0), "(say (if x then 1 else 2))")
        self.becomes("(?a + ?b) -> (?b - (?b * ?a))", "(say ((say 1) + 2))", (0,), "(say (2 - (2 * (say 1))))")
        self.becomes("(1 + 2) -> 3", "(let x = (1 + 2) in (1 + 2))", (0,), "(let x = 3 in (1 + 2))")

    def test_none_where_the_rule_does_not_fit(self):
        rule = rules("(?a + 0) -> ?a")[0]
        for place in [(0,), (1,), (0, 0), (0, 1)]:
            self.assertIsNone(step(rule, read("((x - 0) + 0)"), place))
        self.assertIsNone(step(rule, read("(x + 1)"), ()))

    def test_no_place(self):
        rule = rules("(?a + 0) -> ?a")[0]
        for place in [(2,), (-1,), (0, 0), (1, 0), (0, 0, 0), (7,)]:
            with self.subTest(place), self.assertRaises(NoPlace) as caught:
                step(rule, read("(x + 0)"), place)
            self.assertIsInstance(caught.exception, RecastError)

    def test_lets_around_the_place(self):
        self.becomes("(?a + 0) -> ?a", "(let x = 1 in (x + 0))", (1,), "(let x = 1 in x)")
        self.becomes("(let x = ?a in ?b[x]) -> ?b[?a] where a number", "(let x = 1 in (let y = 2 in (x + y)))", (1,),
                     "(let x = 1 in (x + 2))")

    def test_no_name_is_caught(self):
        rule = "((let x = ?a in ?b[x]) + ?c) -> (let x = ?a in (?b[x] + ?c))"
        self.becomes(rule, "((let x = 1 in x) + x)", (), "(let y = 1 in (y + x))")
        self.becomes(rule, "((let y = x in (x + y)) + x)", (), "(let n = x in ((x + n) + x))")
        self.becomes(rule, "(let x = 5 in ((let x = x in x) + x))", (1,), "(let x = 5 in (let y = x in (y + x)))")
        self.becomes("(?a + ?b) -> (let x = ?a in (x + ?b))", "(y + x)", (), "(let n = y in (n + x))")

    def test_atoms_put_otherwise(self):
        self.becomes("(let x = ?a in (let y = ?b in ?c[x y])) -> (let y = ?a in ?c[y ?b]) where b number",
                     "(let n = (ask w) in (let m = 4 in (n - (m * k))))", (), "(let n = (ask w) in (n - (4 * k)))")
        self.becomes("(let x = ?a in ?b[x]) -> (let x = ?a in (?b[x] - ?b[3]))", "(let n = 1 in (let n = n in (n + 1)))",
                     (), "(let x = 1 in ((let n = x in (n + 1)) - (let n = 3 in (n + 1))))")

    def test_own_gaps(self):
        quiet = "(?a ; ?b) -> ?b where a quiet"
        self.assertIsNone(step(rules(quiet)[0], read("(?g ; 1)"), ()))
        self.assertIsNone(step(rules(quiet)[0], read("(?g ; 1)"), (), (("h", "quiet"),)))
        self.becomes(quiet, "(?g ; 1)", (), "1", (("g", "quiet"),))
        self.becomes(quiet, "(?g ; ?h)", (), "?h", (("g", "number"),))
        self.becomes("(?a + ?b) -> (?b - ?a)", "(say (?b + ?a))", (0,), "(say (?a - ?b))")

    def test_gaps_that_the_right_lacks(self):
        self.becomes("(?a + ?b) -> ?b", "((say 1) + y)", (), "y")

    def test_nothing_new_is_free(self):
        for tree in chance_programs(61, 150):
            for number, place in steps(RULES, tree):
                before = part_at(tree, place)
                behind = part_at(step(RULES[number], tree, place), place)
                self.assertLessEqual(set(free_names(behind)), set(free_names(before)))

    def test_programs_run_as_before(self):
        found = 0
        for tree in chance_programs(62, 300, words="xyzk"):
            known = {"x": 5, "y": 0, "z": 10 ** 30 - 1}
            expected = run(tree, known, {"x": 3, "y": 0})
            for number, place in steps(RULES, tree):
                found += 1
                self.assertEqual(run(step(RULES[number], tree, place), known, {"x": 3, "y": 0}), expected)
        self.assertGreater(found, 300)


class StepsTest(unittest.TestCase):
    def test_none(self):
        self.assertEqual(steps([], read("(1 + 0)")), [])
        self.assertEqual(steps(RULES, read("x")), [])
        self.assertEqual(steps(RULES, read("((say 1) * (ask w))")), [])

    def test_order_of_places(self):
        found = rules("(?a + 0) -> ?a")
        self.assertEqual(
            steps(found, read("((((x + 0) + 0) + 0) + ((y + 0) + 1))")), [(0, (0,)), (0, (0, 0)), (0, (0, 0, 0)), (0, (1, 0))])
        self.assertEqual(steps(found, read("(if (1 + 0) then (2 + 0) else (3 + 0))")), [(0, (0,)), (0, (1,)), (0, (2,))])

    def test_several_rules_at_one_place(self):
        found = rules("(?a + ?b) -> 1", "(?a - 0) -> ?a", "(?a + 0) -> ?a", "(0 + 0) -> 0")
        self.assertEqual(
            steps(found, read("((0 + 0) + ((1 + 0) - 0))")),
            [(0, ()), (0, (0,)), (2, (0,)), (3, (0,)), (1, (1,)), (0, (1, 0)), (2, (1, 0))])
        self.assertEqual(steps(found[::-1], read("(0 + 0)")), [(0, ()), (1, ()), (3, ())])

    def test_the_same_rule_twice(self):
        self.assertEqual(steps(rules("(?a + 0) -> ?a") * 2, read("(1 + 0)")), [(0, ()), (1, ())])

    def test_own_gaps(self):
        found = rules("(?a ; ?b) -> ?b where a quiet", "(?a + ?b) -> ?b where a number")
        tree = read("((?g ; 1) ; (?h + 1))")
        self.assertEqual(steps(found, tree), [])
        self.assertEqual(steps(found, tree, (("g", "quiet"),)), [(0, ()), (0, (0,))])
        self.assertEqual(steps(found, tree, (("h", "number"),)), [(1, (1,))])
        self.assertEqual(steps(found, tree, (("g", "number"), ("h", "quiet"))), [(0, ()), (0, (0,))])

    def test_all_and_no_others(self):
        for tree in chance_programs(63, 100):
            expected = [
                (number, place) for place in places(tree) for number in range(len(RULES))
                if fit(RULES[number], part_at(tree, place)) is not None
            ]
            self.assertEqual(steps(RULES, tree), expected)

    def test_the_list_is_the_askers_own(self):
        found = rules("(?a + 0) -> ?a")
        tree = read("(1 + 0)")
        steps(found, tree).clear()
        self.assertEqual(steps(found, tree), [(0, ())])
        self.assertEqual(len(found), 1)


class TurnedTest(unittest.TestCase):
    def test_without_steps(self):
        for way in ["inner", "outer"]:
            self.assertEqual(turned(RULES, read("(say x)"), SCALE, way), (read("(say x)"), []))
            self.assertEqual(turned([], read("(1 + 0)"), {}, way), (read("(1 + 0)"), []))

    def test_inner_against_outer(self):
        found = rules("(?a + 0) -> ?a", "(?a ; ?b) -> ?b where a quiet")
        tree = read("((x + 0) ; (((y + 0) + 0) - (z + 0)))")
        self.assertEqual(
            turned(found, tree, {}, "inner"),
            (read("(y - z)"), [(0, (0,)), (0, (1, 0, 0)), (0, (1, 0)), (0, (1, 1)), (1, ())]))
        self.assertEqual(
            turned(found, tree, {}, "outer"), (read("(y - z)"), [(1, ()), (0, (0,)), (0, (0,)), (0, (1,))]))
        self.assertEqual(turned(found, tree, {}), turned(found, tree, {}, "inner"))

    def test_inner_and_outer_may_end_unlike(self):
        found = rules("(say (say ?a)) -> ?a", "(say 1) -> 2")
        tree = read("(say (say 1))")
        self.assertEqual(turned(found, tree, {}, "outer"), (read("1"), [(0, ())]))
        self.assertEqual(turned(found, tree, {}, "inner"), (read("(say 2)"), [(1, (0,))]))

    def test_the_first_rule_at_one_place(self):
        found = rules("(1 + ?a) -> 5", "(?a + 2) -> 6")
        for way in ["inner", "outer"]:
            self.assertEqual(turned(found, read("(1 + 2)"), {}, way), (("num", 5), [(0, ())]))
            self.assertEqual(turned(found[::-1], read("(1 + 2)"), {}, way), (("num", 6), [(0, ())]))

    def test_ends_of_lists(self):
        self.assertIsInstance(turned(RULES, read("1"), SCALE), tuple)
        self.assertIsInstance(turned(RULES, read("1"), SCALE)[1], list)

    def test_by_the_words(self):
        for tree in chance_programs(64, 150):
            if worth(tree, SCALE) > 200:
                continue
            for way in ["inner", "outer"]:
                end, row = turned(RULES, tree, SCALE, way)
                now = tree
                for taken in row:
                    found = steps(RULES, now)
                    self.assertEqual(taken, found[0] if way == "outer" else first_innermost(found))
                    behind = step(RULES[taken[0]], now, taken[1])
                    self.assertLess(worth(behind, SCALE), worth(now, SCALE))
                    now = behind
                self.assertEqual(nameless(now), nameless(end))
                self.assertEqual(steps(RULES, end), [])
                self.assertLessEqual(len(row), worth(tree, SCALE))
                self.assertEqual(run(end, {"x": 1}, {"y": 2}), run(tree, {"x": 1}, {"y": 2}))

    def test_own_gaps(self):
        found = rules("(?a ; ?b) -> ?b where a quiet", "(?a + 0) -> ?a")
        tree = read("((?g + 0) ; ?h)")
        self.assertEqual(turned(found, tree, {}), (read("(?g ; ?h)"), [(1, (0,))]))
        self.assertEqual(turned(found, tree, {}, "outer", (("g", "quiet"),)), (read("?h"), [(0, ())]))
        self.assertEqual(turned(found, tree, {}, "inner", (("g", "number"),)), (read("?h"), [(1, (0,)), (0, ())]))
        self.assertEqual(turned(found, tree, {}, "outer", None), (read("(?g ; ?h)"), [(1, (0,))]))

    def test_nothing_handed_in_is_changed(self):
        found = list(RULES)
        scale = dict(SCALE)
        turned(found, read("((1 + 0) + 0)"), scale)[1].clear()
        self.assertEqual(turned(found, read("((1 + 0) + 0)"), scale)[1], [(0, (0,)), (0, ())])
        self.assertEqual((found, scale), (RULES, SCALE))

    def test_great_trees(self):
        found = rules("(say (say ?a)) -> (say ?a)", "(?a + 0) -> ?a")
        for way in ["inner", "outer"]:
            end, row = turned(found, say_chain(199, ("name", "x")), {}, way)
            self.assertEqual((shown(end), len(row)), ("(say x)", 198))


class TurnedByTest(unittest.TestCase):
    def test_the_chosen_ones(self):
        found = rules("(?a + 0) -> ?a", "(?a ; ?b) -> ?b where a quiet")
        tree = read("((x + 0) ; ((y + 0) + 0))")
        handed = []

        def last(told):
            handed.append(list(told))
            return len(told) - 1

        self.assertEqual(
            turned_by(found, tree, {}, last), (read("y"), [(0, (1, 0)), (0, (1,)), (0, (0,)), (1, ())]))
        self.assertEqual(handed, [
            [(1, ()), (0, (0,)), (0, (1,)), (0, (1, 0))], [(1, ()), (0, (0,)), (0, (1,))], [(1, ()), (0, (0,))], [(1, ())],
        ])

    def test_not_asked_where_there_is_no_step(self):
        def never(told):
            raise AssertionError("asked")
        self.assertEqual(turned_by(RULES, read("(say x)"), SCALE, never), (read("(say x)"), []))
        self.assertEqual(turned_by([], read("(1 + 0)"), {}, never), (read("(1 + 0)"), []))

    def test_the_list_is_the_functions_own(self):
        kept = []

        def spoiling(told):
            kept.append(told)
            told.reverse()
            told[0] = "spoilt"
            told.append(("spoilt", ()))
            return 0

        tree = read("(((x + 0) + 0) + (y + 0))")
        self.assertEqual(turned_by(rules("(?a + 0) -> ?a"), tree, {}, spoiling), (
            read("(x + y)"), [(0, (0,)), (0, (0,)), (0, (1,))]))
        self.assertEqual([len(told) for told in kept], [4, 3, 2])

    def test_like_outer_and_by_chance(self):
        chance = random.Random(65)
        for tree in chance_programs(66, 60):
            if worth(tree, SCALE) <= 200:
                self.assertEqual(turned_by(RULES, tree, SCALE, lambda told: 0), turned(RULES, tree, SCALE, "outer"))
                end, row = turned_by(RULES, tree, SCALE, lambda told: chance.randrange(len(told)))
                self.assertEqual(steps(RULES, end), [])
                now = tree
                for number, place in row:
                    now = step(RULES[number], now, place)
                self.assertEqual(nameless(now), nameless(end))


class RefusedTest(unittest.TestCase):
    GREAT = wide_tree([("num", 1)] * 101)
    RISING = "(?a + ?b) -> (?b + ?a)"
    FALLING = "(?a + 0) -> ?a"

    def refused(self, error, texts, tree, scale):
        told = []
        for way in ["inner", "outer", None]:
            with self.assertRaises(error) as caught:
                if way is None:
                    turned_by(rules(*texts), tree, scale, lambda told: 0)
                else:
                    turned(rules(*texts), tree, scale, way)
            self.assertIs(caught.exception.__class__, error)
            told.append(getattr(caught.exception, "number", None))
        self.assertEqual(len(set(told)), 1)
        return told[0]

    def test_no_scale(self):
        for scale in NO_SCALES:
            with self.subTest(scale):
                self.refused(NoScale, [], read("1"), copy.deepcopy(scale))
                self.refused(NoScale, [self.FALLING], read("(1 + 0)"), copy.deepcopy(scale))

    def test_no_fall(self):
        self.assertEqual(self.refused(NoFall, [self.RISING], read("1"), {}), 0)
        self.assertEqual(self.refused(NoFall, [self.FALLING, self.RISING], read("1"), {}), 1)
        self.assertEqual(self.refused(NoFall, [self.FALLING, self.RISING, self.RISING], read("1"), {}), 1)
        self.assertEqual(self.refused(NoFall, [self.RISING, self.FALLING, self.RISING], read("1"), {}), 0)
        self.assertEqual(self.refused(NoFall, [self.FALLING] * 11 + [self.RISING], read("1"), {}), 11)
        self.assertEqual(self.refused(NoFall, ["(?a ; ?b) -> (?b + ?a)"], read("1"), {"add": (2, 1, 1)}), 0)
        turned(rules("(?a ; ?b) -> (?b + ?a)"), read("1"), {"then": (2, 1, 1)})

    def test_too_great(self):
        self.assertEqual(worth(self.GREAT, {}), 201)
        self.refused(TooGreat, [], self.GREAT, {})
        self.refused(TooGreat, [self.FALLING], self.GREAT, {})
        for tree, scale, expected in [
            (say_chain(199, ("num", 1)), {}, 200), (say_chain(200, ("num", 1)), {}, 201),
            (wide_tree([("num", 1)] * 100), {}, 199), (("say", wide_tree([("num", 1)] * 100)), {}, 200),
            (("say", wide_tree([("num", 1)] * 100)), {"say": (2, 1)}, 201),
            (wide_tree([("gap", "g", ())] * 101), {}, 201),
        ]:
            self.assertEqual(worth(tree, scale), expected)
            if expected > 200:
                self.refused(TooGreat, [self.FALLING], tree, scale)
            else:
                self.assertEqual(turned(rules(self.FALLING), tree, scale), (tree, []))
                self.assertEqual(turned_by(rules(self.FALLING), tree, scale, lambda told: 0), (tree, []))

    def test_two_that_are_due_at_once(self):
        self.refused(NoScale, [self.RISING], self.GREAT, {"say": (0, 1)})
        self.refused(NoScale, [self.RISING], read("1"), None)
        self.refused(NoScale, [], self.GREAT, {"num": (1,)})
        self.assertEqual(self.refused(NoFall, [self.FALLING, self.RISING], self.GREAT, {}), 1)


if __name__ == "__main__":
    unittest.main()
