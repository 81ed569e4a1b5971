"""What holds over the whole program: turned programs run as they did, turning ends, all orders end alike."""

import random
import unittest

from recastle.fits import filled
from recastle.meets import meets, parted
from recastle.names import alike, free_names
from recastle.papers import paper
from recastle.reads import read_rule
from recastle.rules import form
from recastle.runs import run
from recastle.trees import part_at, places, put_at
from recastle.turns import step, steps, turned, turned_by
from recastle.worth import falls, worth
from tests.helper import (
    SCALES, chance_filling, chance_of_kind, chance_plain_rules, chance_programs, chance_rules, gap_words, is_rule,
    put_for_gaps,
)

END = 10 ** 30

# Each has a paper.
TEXTS = [
    "(?a + 0) -> ?a",
    "(?a * 0) -> 0 where a quiet",
    "(?a - ?a) -> 0 where a quiet",
    "(?a ; ?b) -> ?b where a quiet",
    "(if ?a then ?b else ?b) -> (?a ; ?b)",
    "(if ?a then ?a else 0) -> ?a where a quiet",
    "(let x = ?a in ?b[x]) -> ?b[?a] where a number",
    "(let x = ?a in ?b) -> (?a ; ?b)",
    "((let x = ?a in ?b[x]) + ?c) -> (let x = ?a in (?b[x] + ?c))",
    "(let x = ?a in (let y = ?b in ?c[x y])) -> (let y = ?b in (let x = ?a in ?c[x y])) where a quiet",
    "((stop w) + ?a) -> (stop w)",
    "((ask w) ; ((ask w) ; ?a)) -> ((ask w) ; ((ask w) ; (0 + ?a)))",
]


def rules(*texts):
    found = [read_rule(text) for text in texts]
    for rule in found:
        form(rule)
    return found


def chance_numbers(chance, words):
    return {word: chance.choice([0, 1, 2, END - 1, chance.randrange(END)]) for word in words if chance.random() < 0.7}


class RunsAsBeforeTest(unittest.TestCase):
    def turns_alike(self, chance, rule, tree, place):
        behind = step(rule, tree, place)
        self.assertIsNotNone(behind)
        old = part_at(tree, place)
        self.assertLessEqual(set(free_names(part_at(behind, place))), set(free_names(old)))
        for turn in range(3):
            known = chance_numbers(chance, "uvwxyz")
            asked = chance_numbers(chance, "uvwxyzk")
            self.assertEqual(run(behind, known, asked), run(tree, known, asked))

    def test_the_rules_have_papers(self):
        for text in TEXTS:
            with self.subTest(text):
                self.assertIsNotNone(paper(rules(text)[0]))

    def test_at_any_place_of_any_program(self):
        chance = random.Random(121)
        with_paper = [rule for rule in chance_rules(122, 250) if paper(rule) is not None] + rules(*TEXTS)
        self.assertGreater(len(with_paper), 60)
        for around in chance_programs(123, 120, depth=3, words="uvwxyz"):
            rule = chance.choice(with_paper)
            place = chance.choice(places(around))
            tree = put_at(around, place, filled(rule[0], chance_filling(chance, rule)))
            self.turns_alike(chance, rule, tree, place)

    def test_any_number_of_times(self):
        chance = random.Random(124)
        found = rules(*TEXTS)
        taken = 0
        for tree in chance_programs(125, 80, words="xyzk"):
            known = chance_numbers(chance, "xyz")
            asked = chance_numbers(chance, "xyzk")
            expected = run(tree, known, asked)
            for turn in range(8):
                told = steps(found, tree)
                if not told:
                    break
                number, place = chance.choice(told)
                tree = step(found[number], tree, place)
                taken += 1
                self.assertEqual(run(tree, known, asked), expected)
        self.assertGreater(taken, 150)


class TurningEndsTest(unittest.TestCase):
    def test_in_no_more_steps_than_the_worth(self):
        chance = random.Random(126)
        taken = 0
        for scale in SCALES:
            found = [rule for rule in chance_rules(127, 200, depth=2) + rules(*TEXTS) if falls(rule, scale)]
            for tree in chance_programs(128, 25, depth=3):
                if worth(tree, scale) > 200:
                    continue
                row = turned_by(found, tree, scale, lambda told: chance.randrange(len(told)))[1]
                self.assertLessEqual(len(row), worth(tree, scale))
                taken += len(row)
                for number, place in row:
                    behind = step(found[number], tree, place)
                    self.assertLess(worth(behind, scale), worth(tree, scale))
                    tree = behind
                self.assertEqual(steps(found, tree), [])
        self.assertGreater(taken, 100)


# Rules of which all meets come together, with a scale by which they fall.
TOGETHER = [
    (["(?a + 0) -> ?a", "(0 + ?a) -> ?a"], {}),
    (["((?a + ?b) + ?c) -> (?a + (?b + ?c))"], {"add": (1, 2, 1)}),
    (["((?a + ?b) + ?c) -> (?a + (?b + ?c))", "(?a + 0) -> ?a", "(0 + ?a) -> ?a"], {"add": (1, 2, 1)}),
    (["(?a ; ?b) -> ?b where a quiet", "((?a ; ?b) ; ?c) -> (?a ; (?b ; ?c))"], {"then": (1, 2, 1)}),
    (["((?a + ?b) + (?b + ?c)) -> ?b", "(?b + ((?b + ?c) + ?d)) -> (?b + ?c)",
      "((?a + (?b + ?c)) + ?c) -> (?b + ?c)"], {}),
    (["((?a ; ?b) ; ?c) -> (?a ; (?b ; ?c))", "(0 ; (1 ; ?a)) -> (1 ; ?a)", "(1 ; (2 ; ?a)) -> (3 ; ?a)",
      "(0 ; (0 ; ?a)) -> (0 ; ?a)", "(0 ; (3 ; ?a)) -> (3 ; ?a)"], {"then": (1, 2, 1)}),
    (["(say (say ?a)) -> ?a where a number", "(say (?a ; ?b)) -> (?a ; (say ?b)) where a quiet",
      "(?a ; ?b) -> ?b where a quiet"], {"say": (1, 3)}),
]


class AllOrdersTest(unittest.TestCase):
    def chance_program(self, chance, found):
        outer = chance.choice(found)
        kinds = dict(outer[2])
        pieces = {word: chance_of_kind(chance, kinds.get(word)) for word in set(gap_words(outer[0]))}
        whole = put_for_gaps(outer[0], pieces)
        return chance.choice([whole, ("say", whole), ("add", whole, chance_of_kind(chance, None)), ("then", whole, whole)])

    def test_where_all_meets_come_together(self):
        chance = random.Random(129)
        taken = 0
        for texts, scale in TOGETHER:
            found = rules(*texts)
            self.assertGreater(len(meets(found)), 0)
            self.assertIsNone(parted(found, scale))
            for each in range(40):
                program = self.chance_program(chance, found)
                if worth(program, scale) > 200:
                    continue
                expected = turned(found, program, scale)[0]
                self.assertTrue(alike(turned(found, program, scale, "outer")[0], expected))
                for order in range(4):
                    end, row = turned_by(found, program, scale, lambda told: chance.randrange(len(told)))
                    self.assertTrue(alike(end, expected))
                    taken += len(row)
        self.assertGreater(taken, 2000)

    def test_where_one_does_not(self):
        chance = random.Random(130)
        seen = 0
        for turn in range(150):
            found = chance_plain_rules(chance, 3, lambda rule: is_rule(rule) and falls(rule, {}))
            told = parted(found, {})
            if told is None:
                continue
            seen += 1
            meet, program = told[:2]
            self.assertEqual(gap_words(program), [])
            for number, place, end in [(meet[0], (), told[2]), (meet[1], meet[2], told[3])]:
                self.assertIn((number, place), steps(found, program))
                self.assertEqual(turned(found, step(found[number], program, place), {})[0], end)
                self.assertEqual(steps(found, end), [])
            self.assertFalse(alike(told[2], told[3]))
        self.assertGreater(seen, 15)


if __name__ == "__main__":
    unittest.main()
