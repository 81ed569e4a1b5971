"""What holds over the whole program.

Turned programs run as they did, turning ends, all orders end alike where the meets come together, completed rules
decide, and rules that are read off do what the pairs show.
"""

import random
import unittest

from recastle.completes import completed
from recastle.fits import fit, filled
from recastle.meets import meets, parted
from recastle.names import alike, free_names
from recastle.papers import paper
from recastle.reading import read_off
from recastle.reads import read
from recastle.rows import is_row, same
from recastle.runs import run
from recastle.shop import Shop
from recastle.shows import shown, shown_rule
from recastle.trees import part_at, places, put_at
from recastle.turns import step, steps, turned, turned_by
from recastle.worth import falls, worth
from tests.helper import (
    SCALES, chance_filling, chance_of_kind, chance_pairs, chance_plain_rules, chance_programs, chance_rules, gap_words,
    is_rule, put_for_gaps, rules,
)

END = 10 ** 30

# Each has a paper.
TEXTS = [
    "(?a + 0) -> ?a",
    "(?a * 0) -> 0 where a quiet",
    "(?a - ?a) -> 0 where a quiet",
    "(?a ; ?b) -> ?b where a quiet",
    "(if ?a then ?b else ?b) -> (?a ; ?b)",
    "(if ?a then ?a else 0) -> ?a where a quiet",
    "(let x = ?a in ?b[x]) -> ?b[?a] where a number",
    "(let x = ?a in ?b) -> (?a ; ?b)",
    "((let x = ?a in ?b[x]) + ?c) -> (let x = ?a in (?b[x] + ?c))",
    "(let x = ?a in (let y = ?b in ?c[x y])) -> (let y = ?b in (let x = ?a in ?c[x y])) where a quiet",
    "((stop w) + ?a) -> (stop w)",
    "((ask w) ; ((ask w) ; ?a)) -> ((ask w) ; ((ask w) ; (0 + ?a)))",
]


def chance_numbers(chance, words):
    return {word: chance.choice([0, 1, 2, END - 1, chance.randrange(END)]) for word in words if chance.random() < 0.7}


class RunsAsBeforeTest(unittest.TestCase):
    def turns_alike(self, chance, rule, tree, place):
        behind = step(rule, tree, place)
        self.assertIsNotNone(behind)
        old = part_at(tree, place)
        self.assertLessEqual(set(free_names(part_at(behind, place))), set(free_names(old)))
        for turn in range(3):
            known = chance_numbers(chance, "uvwxyz")
            asked = chance_numbers(chance, "uvwxyzk")
            self.assertEqual(run(behind, known, asked), run(tree, known, asked))

    def test_the_rules_have_papers(self):
        for text in TEXTS:
            with self.subTest(text):
                self.assertIsNotNone(paper(rules(text)[0]))

    def test_at_any_place_of_any_program(self):
        chance = random.Random(121)
        with_paper = [rule for rule in chance_rules(122, 250) if paper(rule) is not None] + rules(*TEXTS)
        self.assertGreater(len(with_paper), 60)
        for around in chance_programs(123, 120, depth=3, words="uvwxyz"):
            rule = chance.choice(with_paper)
            place = chance.choice(places(around))
            tree = put_at(around, place, filled(rule[0], chance_filling(chance, rule)))
            self.turns_alike(chance, rule, tree, place)

    def test_any_number_of_times(self):
        chance = random.Random(124)
        found = rules(*TEXTS)
        taken = 0
        for tree in chance_programs(125, 80, words="xyzk"):
            known = chance_numbers(chance, "xyz")
            asked = chance_numbers(chance, "xyzk")
            expected = run(tree, known, asked)
            for turn in range(8):
                told = steps(found, tree)
                if not told:
                    break
                number, place = chance.choice(told)
                tree = step(found[number], tree, place)
                taken += 1
                self.assertEqual(run(tree, known, asked), expected)
        self.assertGreater(taken, 150)


class TurningEndsTest(unittest.TestCase):
    def test_in_no_more_steps_than_the_worth(self):
        chance = random.Random(126)
        taken = 0
        for scale in SCALES:
            found = [rule for rule in chance_rules(127, 200, depth=2) + rules(*TEXTS) if falls(rule, scale)]
            for tree in chance_programs(128, 25, depth=3):
                if worth(tree, scale) > 200:
                    continue
                row = turned_by(found, tree, scale, lambda told: chance.randrange(len(told)))[1]
                self.assertLessEqual(len(row), worth(tree, scale))
                taken += len(row)
                for number, place in row:
                    behind = step(found[number], tree, place)
                    self.assertLess(worth(behind, scale), worth(tree, scale))
                    tree = behind
                self.assertEqual(steps(found, tree), [])
        self.assertGreater(taken, 100)


# Rules of which all meets come together, with a scale by which they fall.
TOGETHER = [
    (["(?a + 0) -> ?a", "(0 + ?a) -> ?a"], {}),
    (["((?a + ?b) + ?c) -> (?a + (?b + ?c))"], {"add": (1, 2, 1)}),
    (["((?a + ?b) + ?c) -> (?a + (?b + ?c))", "(?a + 0) -> ?a", "(0 + ?a) -> ?a"], {"add": (1, 2, 1)}),
    (["(?a ; ?b) -> ?b where a quiet", "((?a ; ?b) ; ?c) -> (?a ; (?b ; ?c))"], {"then": (1, 2, 1)}),
    (["((?a + ?b) + (?b + ?c)) -> ?b", "(?b + ((?b + ?c) + ?d)) -> (?b + ?c)",
      "((?a + (?b + ?c)) + ?c) -> (?b + ?c)"], {}),
    (["((?a ; ?b) ; ?c) -> (?a ; (?b ; ?c))", "(0 ; (1 ; ?a)) -> (1 ; ?a)", "(1 ; (2 ; ?a)) -> (3 ; ?a)",
      "(0 ; (0 ; ?a)) -> (0 ; ?a)", "(0 ; (3 ; ?a)) -> (3 ; ?a)"], {"then": (1, 2, 1)}),
    (["(say (say ?a)) -> ?a where a number", "(say (?a ; ?b)) -> (?a ; (say ?b)) where a quiet",
      "(?a ; ?b) -> ?b where a quiet"], {"say": (1, 3)}),
]


def chance_program(chance, found):
    """A program in which one of the rules fits a part."""
    outer = chance.choice(found)
    kinds = dict(outer[2])
    pieces = {word: chance_of_kind(chance, kinds.get(word)) for word in set(gap_words(outer[0]))}
    whole = put_for_gaps(outer[0], pieces)
    return chance.choice([whole, ("say", whole), ("add", whole, chance_of_kind(chance, None)), ("then", whole, whole)])


class AllOrdersTest(unittest.TestCase):
    def test_where_all_meets_come_together(self):
        chance = random.Random(129)
        taken = 0
        for texts, scale in TOGETHER:
            found = rules(*texts)
            self.assertGreater(len(meets(found)), 0)
            self.assertIsNone(parted(found, scale))
            for each in range(40):
                program = chance_program(chance, found)
                if worth(program, scale) > 200:
                    continue
                expected = turned(found, program, scale)[0]
                self.assertTrue(alike(turned(found, program, scale, "outer")[0], expected))
                for order in range(4):
                    end, row = turned_by(found, program, scale, lambda told: chance.randrange(len(told)))
                    self.assertTrue(alike(end, expected))
                    taken += len(row)
        self.assertGreater(taken, 2000)

    def test_where_one_does_not(self):
        chance = random.Random(130)
        seen = 0
        for turn in range(150):
            found = chance_plain_rules(chance, 3, lambda rule: is_rule(rule) and falls(rule, {}))
            told = parted(found, {})
            if told is None:
                continue
            seen += 1
            meet, program = told[:2]
            self.assertEqual(gap_words(program), [])
            for number, place, end in [(meet[0], (), told[2]), (meet[1], meet[2], told[3])]:
                self.assertIn((number, place), steps(found, program))
                self.assertEqual(turned(found, step(found[number], program, place), {})[0], end)
                self.assertEqual(steps(found, end), [])
            self.assertFalse(alike(told[2], told[3]))
        self.assertGreater(seen, 15)


# Rules that want further ones till all their meets come together.
WANTING = [
    (["(say (say (say ?a))) -> ?a", "(say (say (say (say (say ?a))))) -> ?a"], {}),
    (["((?a + ?b) + (?b + ?c)) -> ?b"], {}),
    (["(say (?a ; ?b)) -> (?b + 1)", "(?a ; ?b) -> (?b - 3) where a number, b quiet"], {"then": (3, 1, 1)}),
    (["(say (?a ; 1)) -> 2", "(?a ; ?b) -> ?b where a quiet", "(say (?a + 1)) -> ?a"], {}),
    (["((?a ; ?b) ; ?c) -> (?a ; (?b ; ?c))", "(0 ; (1 ; ?a)) -> (1 ; ?a)", "(1 ; (2 ; ?a)) -> (3 ; ?a)",
      "(0 ; (0 ; ?a)) -> (0 ; ?a)"], {"then": (1, 2, 1)}),
]


def by_those_ahead(grown, rows, many, begin, row):
    """A row in which each step by a further rule is put otherwise by the row of that rule, till there is none."""
    spread = []
    ahead = begin
    for number, place, way, tree in row:
        if number < many:
            spread.append((number, place, way, tree))
        else:
            rule = grown[number]
            kinds, told = rows[number - many]
            before = ahead if way == "on" else tree
            filling = fit(rule, part_at(before, place))
            trees = [rule[0]] + [one[3] for one in told]
            for word in {word for one in trees for word in gap_words(one)}:
                filling.setdefault(word, ((), ("num", 0)))
            wholes = [put_at(before, place, filled(one, filling)) for one in trees]
            within = [(one[0], place + one[1], one[2], whole) for one, whole in zip(told, wholes[1:])]
            if way == "back":
                within = [
                    (one[0], one[1], {"on": "back", "back": "on"}[one[2]], whole)
                    for one, whole in reversed(list(zip(within, wholes)))]
            spread += by_those_ahead(grown, rows, many, ahead, within)
        ahead = tree
    return spread


class CompletedTest(unittest.TestCase):
    def decides(self, chance, found, grown, rows, scale):
        """How many steps by further rules stand in the row between two programs, 0 where there is none."""
        one = chance_program(chance, found)
        other = chance_program(chance, found)
        if max(worth(one, scale), worth(other, scale)) > 200:
            return 0
        if chance.random() < 0.5:
            # Turned by the rules handed in, in any order, which may end otherwise than by all of them.
            other = turned_by(found, one, scale, lambda told: chance.randrange(len(told)))[0]
        told = same(grown, one, other, scale)
        if told[0] == "same":
            self.assertTrue(is_row(grown, one, told[1], other))
            self.assertTrue(is_row(found, one, by_those_ahead(grown, rows, len(found), one, told[1]), other))
            return sum(number >= len(found) for number, place, way, tree in told[1])
        for tree, end in [(one, told[1]), (other, told[2])]:
            # What steps by the rules handed in lead to, on and from there on, has the same end.
            for number, place in steps(found, tree):
                self.assertTrue(alike(turned(grown, step(found[number], tree, place), scale)[0], end))
        return 0

    def test_rules_by_hand(self):
        chance = random.Random(131)
        further = 0
        for texts, scale in WANTING:
            found = rules(*texts)
            word, grown, rows = completed(found, scale)
            self.assertEqual(word, "done")
            self.assertGreater(len(rows), 0)
            self.assertIsNone(parted(grown, scale))
            for turn in range(40):
                further += self.decides(chance, found, grown, rows, scale)
        self.assertGreater(further, 40)

    def test_rules_by_chance(self):
        chance = random.Random(132)
        seen = 0
        for turn in range(200):
            found = chance_plain_rules(chance, 3, lambda rule: is_rule(rule) and falls(rule, {}))
            told = completed(found, {})
            if told[0] != "done" or not told[2]:
                continue
            seen += 1
            for each in range(6):
                self.decides(chance, found, told[1], told[2], {})
                program = chance_program(chance, found)
                expected = turned(told[1], program, {})[0]
                end = turned_by(told[1], program, {}, lambda found: chance.randrange(len(found)))[0]
                self.assertTrue(alike(end, expected))
        self.assertGreater(seen, 8)


class ReadOffTest(unittest.TestCase):
    def test_turns_each_before_into_its_behind(self):
        chance = random.Random(133)
        seen = 0
        for turn in range(300):
            wanted = chance_plain_rules(chance, 1, is_rule)[0]
            pairs = chance_pairs(chance, wanted, chance.choice([1, 2, 3]))
            rule = read_off(pairs)
            for before, behind in pairs:
                self.assertEqual(step(rule, before, ()), behind)
            seen += 1
            for narrower in self.narrower(rule):
                self.assertFalse(all(step(narrower, before, ()) == behind for before, behind in pairs))
        self.assertEqual(seen, 300)

    def narrower(self, rule):
        """Rules that come of one by a piece in a gap, one gap for two, or a narrower kind."""
        words = sorted(set(gap_words(rule[0])))
        kinds = dict(rule[2])
        for word in words:
            trees = [("num", 0), ("num", 1), ("num", 2), ("ask", "k"), ("stop", "k"), ("gap", words[0], ()), ("gap", words[-1], ())]
            trees += [(sign, ("gap", "one", ()), ("gap", "two", ())) for sign in ("add", "then")]
            trees += [("say", ("gap", "one", ())), ("if",) + tuple(("gap", each, ()) for each in ("one", "two", "three"))]
            for tree in trees:
                if tree != ("gap", word, ()):
                    put = [put_for_gaps(side, {word: tree}) for side in rule[:2]]
                    left = set(gap_words(put[0]))
                    yield (put[0], put[1], tuple(pair for pair in rule[2] if pair[0] in left))
            if kinds.get(word) != "number":
                narrow = dict(kinds, **{word: "quiet" if word not in kinds else "number"})
                yield (rule[0], rule[1], tuple(sorted(narrow.items())))

    def test_read_off_and_taken(self):
        # A rule that is read off goes into a shop, and the shop turns the programs as the pairs show.
        pairs = [("(x + 0)", "x"), ("((say 1) + 0)", "(say 1)")]
        rule = read_off([(read(before), read(behind)) for before, behind in pairs])
        shop = Shop()
        self.assertEqual(shop.take(shown_rule(rule)), 0)
        for before, behind in pairs:
            self.assertEqual(shop.turn(before), behind)
            self.assertEqual(shop.compare(before, behind), ["same", before, behind])
        self.assertEqual(shop.together(), ["together"])


class ShopTest(unittest.TestCase):
    def test_turned_programs_run_as_they_did(self):
        chance = random.Random(134)
        shop = Shop({"let": (9, 1, 1), "if": (2, 1, 1, 1), "add": (1, 2, 1)})
        for text in TEXTS[:9]:
            shop.take(text)
        turned_many = 0
        for tree in chance_programs(135, 150, depth=3, words="xyzk"):
            text = shown(tree)
            for way in ["inner", "outer"]:
                told = shop.turn(text, way)
                turned_many += told != text
                known = chance_numbers(chance, "xyz")
                asked = chance_numbers(chance, "xyzk")
                self.assertEqual(run(read(told), known, asked), run(tree, known, asked))
                if way == "inner":
                    self.assertEqual(shop.compare(text, told)[0], "same")
        self.assertGreater(turned_many, 60)


if __name__ == "__main__":
    unittest.main()
