import random
import unittest

from recastle.completes import completed, made_rule
from recastle.errors import NoFall, NoPlain, NoRule, NoScale, RecastError, TooGreat
from recastle.meets import meets, parted
from recastle.names import alike
from recastle.reads import read, read_rule
from recastle.rows import is_row, same
from recastle.rules import form, gaps_of
from recastle.trees import size
from recastle.turns import step, steps, turned
from recastle.worth import falls, worth
from tests.helper import (
    NO_SCALES, SCALES, called_alike, chance_kinds, chance_of_kind, chance_plain_rules, chance_plain_shape, gap_words,
    is_rule, put_for_gaps, rule_called_alike, rules,
)

NEST = "((?a ; ?b) ; ?c) -> (?a ; (?b ; ?c))"
NEST_SCALE = {"then": (1, 2, 1)}
GROUP = ["(0 + ?a) -> ?a", "((say ?a) + ?a) -> 0", "((?a + ?b) + ?c) -> (?a + (?b + ?c))"]
GROUP_SCALE = {"add": (1, 2, 1)}

FOUR = "(if 1 then 2 else 3)"
THIRTEEN = "((((((1 - 2) - 2) - 2) - 2) - 2) - 2)"
FOURTEEN = "(if 1 then 2 else (((((1 - 2) - 2) - 2) - 2) - 2))"


def expected_made(s, t, kinds, scale):
    for left, right in ((s, t), (t, s)):
        rule = (left, right, tuple(pair for pair in kinds if pair[0] in gap_words(left)))
        try:
            form(rule)
        except NoRule:
            continue
        if falls(rule, scale):
            return rule
    return None


def expected_completed(found, scale, most):
    """The word, the rules and what is left unordered, by the words of the document."""
    found = list(found)
    while True:
        for i, j, place, shape, kinds, one, other in meets(found):
            s = turned(found, one, scale, "inner", kinds)[0]
            t = turned(found, other, scale, "inner", kinds)[0]
            if s != t:
                break
        else:
            return ("done", found, None)
        rule = expected_made(s, t, kinds, scale)
        if rule is None:
            return ("unordered", found, (s, t, kinds))
        if len(found) >= most or max(size(rule[0]), size(rule[1])) > 20 or len(gaps_of(rule[0])) > 6:
            return ("many", found, None)
        found.append(rule)


class MadeRuleTest(unittest.TestCase):
    def made(self, s, t, kinds, scale, expected):
        with self.subTest(s=s, t=t):
            told = made_rule(read(s), read(t), kinds, scale)
            self.assertEqual(told, expected and read_rule(expected))

    def test_in_the_one_order(self):
        self.made("(?a + 0)", "?a", (), {}, "(?a + 0) -> ?a")
        self.made("(?a + 0)", "?a", (("a", "quiet"),), {}, "(?a + 0) -> ?a where a quiet")
        self.made("((?a ; ?b) ; ?c)", "(?a ; (?b ; ?c))", (), NEST_SCALE, NEST)

    def test_in_the_other(self):
        self.made("?a", "(?a + 0)", (), {}, "(?a + 0) -> ?a")
        self.made("(?a ; (?b ; ?c))", "((?a ; ?b) ; ?c)", (), NEST_SCALE, NEST)
        self.made("(?a + ?b)", "(?b ; ?a)", (), {"then": (2, 1, 1)}, "(?b ; ?a) -> (?a + ?b)")
        self.made("(?b ; ?a)", "(?a + ?b)", (), {"then": (2, 1, 1)}, "(?b ; ?a) -> (?a + ?b)")
        # The first order is no rule, whether it falls or not.
        self.made("((1 + 1) + 1)", "(say 1)", (), {}, None)
        self.made("((1 + 1) + 1)", "(say 1)", (), {"say": (9, 1)}, "(say 1) -> ((1 + 1) + 1)")

    def test_in_none(self):
        self.made("(?a + ?b)", "(?b + ?a)", (), {}, None)
        self.made("?a", "?b", (), {}, None)
        self.made("1", "2", (), {}, None)
        self.made("(?a + 1)", "(?b + 1)", (), {}, None)
        self.made("(?a + (?a + 1))", "(?b + 1)", (), {}, None)
        self.made("(x + 0)", "x", (), {}, None)
        self.made("(1 + 2)", "(say 1)", (), {}, None)
        self.made("(?a ; (?b ; ?c))", "((?a ; ?b) ; ?c)", (), {}, None)

    def test_a_rule_by_one_order_that_does_not_fall(self):
        self.made("(say (?a + ?b))", "(?a * (?a * 1))", (), {}, None)
        self.made("(?a + 1)", "(?a + (?b + 1))", (), {}, "(?a + (?b + 1)) -> (?a + 1)")

    def test_kinds_of_gaps_that_one_side_lacks(self):
        kinds = (("a", "quiet"), ("b", "number"), ("c", "quiet"))
        self.made("(?a + ?b)", "?a", kinds, {}, "(?a + ?b) -> ?a where a quiet, b number")
        self.made("?a", "(?a + ?b)", kinds, {}, "(?a + ?b) -> ?a where a quiet, b number")
        self.made("(1 + 2)", "3", kinds, {}, "(1 + 2) -> 3")
        self.made("3", "(?c + 2)", kinds, {}, "(?c + 2) -> 3 where c quiet")
        self.made("(?a + ?a)", "(?a ; 1)", kinds, {"add": (2, 1, 1)}, "(?a + ?a) -> (?a ; 1) where a quiet")

    def test_kinds_left_out(self):
        self.assertEqual(made_rule(read("(?a + 0)"), read("?a"), None, {}), read_rule("(?a + 0) -> ?a"))

    def test_numbers_may_come_more_often(self):
        number = (("a", "number"),)
        self.made("(say (say (say ?a)))", "(?a + ?a)", number, {}, "(say (say (say ?a))) -> (?a + ?a) where a number")
        self.made("(say (say (say ?a)))", "(?a + ?a)", (), {}, None)

    def test_with_lets(self):
        self.made("?b[?a]", "(let x = ?a in ?b[x])", (("a", "number"),), {}, "(let x = ?a in ?b[x]) -> ?b[?a] where a number")
        self.made("(let x = ?a in ?b[x])", "?b[?a]", (("a", "quiet"),), {}, None)

    def test_no_scale(self):
        for scale in NO_SCALES:
            with self.subTest(scale):
                for s, t in [("(?a + 0)", "?a"), ("?a", "?b"), ("1", "1")]:
                    with self.assertRaises(NoScale) as caught:
                        made_rule(read(s), read(t), (), scale)
                    self.assertIsInstance(caught.exception, RecastError)

    def test_shapes_by_chance(self):
        chance = random.Random(141)
        seen = {"one": 0, "other": 0, "none": 0}
        for turn in range(1500):
            s = chance_plain_shape(chance, 2)
            t = chance_plain_shape(chance, 2)
            kinds = chance_kinds(chance, ("add", s, t))
            scale = chance.choice(SCALES)
            told = made_rule(s, t, kinds, scale)
            self.assertEqual(told, expected_made(s, t, kinds, scale))
            seen["none" if told is None else "one" if told[0] == s else "other"] += 1
        self.assertGreater(min(seen.values()), 100)


class CompletedTest(unittest.TestCase):
    def completed(self, texts, scale, word, *further, most=None):
        found = rules(*texts)
        told = completed(found, scale) if most is None else completed(found, scale, most)
        self.assertEqual(found, rules(*texts))
        self.assertEqual(told[0], word)
        self.assertEqual(told[1][:len(found)], found)
        self.assertEqual([rule_called_alike(rule) for rule in told[1][len(found):]],
                         [rule_called_alike(read_rule(text)) for text in further])
        self.rows_hold(found, told)
        self.assertEqual(expected_completed(found, scale, 12 if most is None else most)[:2], told[:2])
        return told

    def rows_hold(self, found, told):
        self.assertIsInstance(told, tuple)
        self.assertIsInstance(told[1], list)
        self.assertIsInstance(told[2], list)
        self.assertEqual(len(told[1]), len(found) + len(told[2]))
        for number, (kinds, row) in enumerate(told[2], start=len(found)):
            self.row_holds(told[1][:number], told[1][number][0], row, told[1][number][1], kinds)
        if told[0] == "unordered":
            self.assertEqual(len(told), 5)
            s, t, kinds = told[3]
            self.row_holds(told[1], s, told[4], t, kinds)
        else:
            self.assertEqual(len(told), 3)

    def row_holds(self, ahead, left, row, right, kinds):
        self.assertIsInstance(row, list)
        self.assertIs(is_row(ahead, left, row, right, kinds), True)
        self.assertEqual(row[-1][3], right)
        # The kinds are those of gaps that stand in the row, in order, each once.
        standing = {word for tree in [left] + [told[3] for told in row] for word in gap_words(tree)}
        self.assertLessEqual({word for word, kind in kinds}, standing)
        self.assertEqual(list(kinds), sorted(dict(kinds).items()))
        self.assertIsInstance(kinds, tuple)

    def test_done_at_once(self):
        for texts, scale in [([], {}), (["(?a + 0) -> ?a"], {}), (["(?a + 0) -> ?a", "(0 + ?a) -> ?a"], {}),
                             ([NEST], NEST_SCALE)]:
            self.assertEqual(completed(rules(*texts), scale), ("done", rules(*texts), []))

    def test_one_further(self):
        self.completed(["(?a + 0) -> ?a", "(say (?a + 0)) -> 1"], {}, "done", "(say ?a) -> 1")
        self.completed([NEST, "(0 ; 1) -> 2"], NEST_SCALE, "done", "(0 ; (1 ; ?a)) -> (2 ; ?a)")
        self.completed(["(1 + 2) -> (3 - 4)", "(1 + 2) -> 5"], {"add": (2, 1, 1)}, "done", "(3 - 4) -> 5")
        self.completed(["(1 + 2) -> 5", "(1 + 2) -> (3 - 4)"], {"add": (2, 1, 1)}, "done", "(3 - 4) -> 5")

    def test_several_further(self):
        self.completed(["(say (say (say ?a))) -> ?a", "(say (say (say (say (say ?a))))) -> ?a"], {}, "done",
                       "(say (say ?a)) -> ?a", "(say ?a) -> ?a")
        self.completed(["((?a + ?b) + (?b + ?c)) -> ?b"], {}, "done",
                       "(?a + ((?a + ?b) + ?c)) -> (?a + ?b)", "((?a + (?b + ?c)) + ?c) -> (?b + ?c)")
        self.completed([NEST, "(0 ; (1 ; ?a)) -> (1 ; ?a)", "(1 ; (2 ; ?a)) -> (3 ; ?a)", "(0 ; (0 ; ?a)) -> (0 ; ?a)"],
                       NEST_SCALE, "done", "(0 ; (3 ; ?a)) -> (3 ; ?a)")

    def test_the_row_by_hand(self):
        found = rules("(1 + 2) -> (3 - 4)", "(1 + 2) -> 5")
        told = completed(found, {"add": (2, 1, 1)})
        self.assertEqual(told[1:], (found + rules("(3 - 4) -> 5"), [
            ((), [(0, (), "back", read("(1 + 2)")), (1, (), "on", read("5"))])]))
        found = rules("(1 + 2) -> 5", "(1 + 2) -> (3 - 4)")
        told = completed(found, {"add": (2, 1, 1)})
        self.assertEqual(told[1:], (found + rules("(3 - 4) -> 5"), [
            ((), [(1, (), "back", read("(1 + 2)")), (0, (), "on", read("5"))])]))

    def test_kinds_of_gaps_that_neither_side_has(self):
        told = self.completed(["(say (?a ; 1)) -> 2", "(?a ; ?b) -> ?b where a quiet"], {}, "done", "(say 1) -> 2")
        (kinds, row), = told[2]
        self.assertEqual([kind for word, kind in kinds], ["quiet"])
        self.assertFalse(is_row(told[1][:2], read("(say 1)"), row, read("2"), ()))
        told = self.completed(["(say (?a ; ?b)) -> (?b + 1)", "(?a ; ?b) -> (?b - 3) where a number, b quiet"],
                              {"then": (3, 1, 1)}, "done", "(say (?a - 3)) -> (?a + 1) where a quiet")
        self.assertEqual(sorted(kind for word, kind in told[2][0][0]), ["number", "quiet"])

    def test_unordered(self):
        told = self.completed(["(say (?a + ?b)) -> (?a + ?b)", "(say (?a + ?b)) -> (?b + ?a)"], {}, "unordered")
        self.assertEqual(called_alike(gap_words(told[3][0]), told[3][2], *told[3][:2]), (
            [], ("add", ("gap", 0, ()), ("gap", 1, ())), ("add", ("gap", 1, ()), ("gap", 0, ()))))
        self.assertEqual([step[:3] for step in told[4]], [(0, (), "back"), (1, (), "on")])
        told = self.completed(["(?a + ?b) -> ?a", "(?a + ?b) -> ?b where a quiet, b number"], {}, "unordered")
        self.assertEqual([kind for word, kind in sorted(told[3][2], key=lambda pair: pair[1])], ["number", "quiet"])
        self.assertEqual({told[3][0][0], told[3][1][0]}, {"gap"})

    def test_unordered_with_a_gap_that_neither_end_has(self):
        told = self.completed(["(say (?a ; ?b)) -> 1", "(say (?a ; ?b)) -> 2 where a quiet"], {}, "unordered")
        self.assertEqual((told[3][:2], [kind for word, kind in told[3][2]]), ((("num", 1), ("num", 2)), ["quiet"]))
        self.assertEqual([step[:3] for step in told[4]], [(0, (), "back"), (1, (), "on")])

    def test_unordered_behind_a_further_one(self):
        told = self.completed(["(1 + 2) -> (3 - 4)", "(1 + 2) -> 5", "(3 - 4) -> 6"], {"add": (2, 1, 1)}, "unordered")
        self.assertEqual(told[3], (("num", 6), ("num", 5), ()))
        texts = ["(say (?a + ?b)) -> (?a ; ?b)", "(say (?a + ?b)) -> 1", "(say (?a * ?b)) -> (?a - ?b)",
                 "(say (?a * ?b)) -> (?b - ?a)"]
        told = self.completed(texts, {}, "unordered", "(?a ; ?b) -> 1")
        self.assertEqual(len(told[2]), 1)

    def test_many_by_the_most(self):
        further = ["(say (say ?a)) -> ?a", "(say ?a) -> ?a"]
        texts = ["(say (say (say ?a))) -> ?a", "(say (say (say (say (say ?a))))) -> ?a"]
        for most, word, count in [(1, "many", 0), (2, "many", 0), (3, "many", 1), (4, "done", 2), (5, "done", 2), (12, "done", 2)]:
            self.completed(texts, {}, word, *further[:count], most=most)
        self.completed(texts, {}, "done", *further)
        self.assertEqual(completed(rules(*GROUP), GROUP_SCALE, 3), ("many", rules(*GROUP), []))
        told = completed(rules(*GROUP), GROUP_SCALE)
        self.assertEqual((told[0], len(told[1]), len(told[2])), ("many", 12, 9))
        self.rows_hold(rules(*GROUP), told)
        for most in range(3, 12):
            self.assertEqual(completed(rules(*GROUP), GROUP_SCALE, most),
                             ("many", told[1][:most], told[2][:most - 3]))

    def test_done_with_more_rules_than_the_most(self):
        texts = ["(?a + 0) -> ?a", "(?a - 0) -> ?a", "(?a * 1) -> ?a"]
        self.assertEqual(completed(rules(*texts), {}, 1), ("done", rules(*texts), []))

    def test_unordered_goes_ahead_of_many(self):
        texts = ["(?a + ?b) -> ?a", "(?a + ?b) -> ?b"]
        self.assertEqual(completed(rules(*texts), {}, 1)[0], "unordered")

    def test_twenty_and_twenty_one_parts_at_the_left(self):
        for rest, many, word in [(THIRTEEN, 18, "done"), (FOURTEEN, 19, "many")]:
            left = "(" + FOUR + " ; " + rest + ")"
            self.assertEqual(size(read(left)), many)
            further = "(" + FOUR + " ; (" + rest + " ; ?a)) -> (1 ; ?a)"
            self.assertEqual(size(read_rule(further)[0]), many + 2)
            self.completed([NEST, left + " -> 1"], NEST_SCALE, word, *([further] if word == "done" else []))

    def test_twenty_and_twenty_one_parts_at_the_right(self):
        scale = {"mul": (9, 3, 3)}
        for first, many, word in [(THIRTEEN, 20, "done"), (FOURTEEN, 21, "many")]:
            right = "(if " + first + " then ?a else ((3 - 4) - 5))"
            self.assertEqual(size(read(right)), many)
            further = "(?a * (3 * 3)) -> " + right
            self.completed(["((?a + 1) * (3 * 3)) -> " + right, "(?a + 1) -> ?a"], scale, word,
                           *([further] if word == "done" else []))

    def test_six_and_seven_gaps(self):
        for first, second, many, word in [
            ("(((?a - ?b) - ?c) - ?d)", "(?e * 1)", 6, "done"), ("(((?a - ?b) - ?c) - ?d)", "(?e * ?f)", 7, "many"),
        ]:
            further = "(" + first + " ; (" + second + " ; ?g)) -> (1 ; ?g)"
            self.assertEqual(len(gaps_of(read_rule(further)[0])), many)
            self.completed([NEST, "(" + first + " ; " + second + ") -> 1"], NEST_SCALE, word,
                           *([further] if word == "done" else []))

    def test_rules_by_chance(self):
        chance = random.Random(142)
        seen = {"done": 0, "unordered": 0, "many": 0}
        for turn in range(250):
            found = chance_plain_rules(chance, chance.choice([2, 3]), lambda rule: is_rule(rule) and falls(rule, {}),
                                       depth=chance.choice([2, 3]))
            most = chance.choice([1, 3, 4, 12])
            told = completed(found, {}, most)
            expected = expected_completed(found, {}, most)
            self.assertEqual(told[:2], expected[:2])
            self.rows_hold(found, told)
            if told[0] == "unordered":
                self.assertEqual(told[3], expected[2])
            if told[0] == "done":
                self.assertIsNone(parted(told[1], {}))
            if told[2] or told[0] != "done":
                seen[told[0]] += 1
        self.assertGreater(min(seen.values()), 8)

    def test_completed_rules_decide(self):
        chance = random.Random(143)
        seen = 0
        for texts, scale in [
            (["(say (say (say ?a))) -> ?a", "(say (say (say (say (say ?a))))) -> ?a"], {}),
            (["((?a + ?b) + (?b + ?c)) -> ?b"], {}),
            (["(say (?a ; ?b)) -> (?b + 1)", "(?a ; ?b) -> (?b - 3) where a number, b quiet"], {"then": (3, 1, 1)}),
            ([NEST, "(0 ; (1 ; ?a)) -> (1 ; ?a)", "(1 ; (2 ; ?a)) -> (3 ; ?a)", "(0 ; (0 ; ?a)) -> (0 ; ?a)"], NEST_SCALE),
        ]:
            found = rules(*texts)
            word, grown, rows = completed(found, scale)
            self.assertEqual(word, "done")
            for turn in range(25):
                one = other = self.program(chance, found)
                # A row by the rules handed in, on and back.
                for turn_back in range(5):
                    other = self.stepped(chance, found, other)
                if max(worth(one, scale), worth(other, scale)) > 200:
                    continue
                told = same(grown, one, other, scale)
                self.assertEqual(told[0], "same")
                self.assertTrue(is_row(grown, one, told[1], other))
                seen += not alike(turned(found, one, scale)[0], turned(found, other, scale)[0])
        # Some of which the rules handed in don't decide by themselves.
        self.assertGreater(seen, 5)

    def program(self, chance, found):
        left, right, kinds = chance.choice(found)
        pieces = {word: chance_of_kind(chance, dict(kinds).get(word), 1) for word in set(gap_words(left))}
        return put_for_gaps(left, pieces)

    def stepped(self, chance, found, tree):
        if chance.random() < 0.5:
            told = steps(found, tree)
            if told:
                number, place = chance.choice(told)
                return step(found[number], tree, place)
        for rule in chance.sample(found, len(found)):
            # Back, at the whole: the tree as the right, whatever stands in the gaps that the right lacks.
            pieces = {word: chance_of_kind(chance, dict(rule[2]).get(word), 1) for word in set(gap_words(rule[0]))}
            if rule[1][0] == "gap":
                pieces[rule[1][1]] = tree
            before = put_for_gaps(rule[0], pieces)
            if step(rule, before, ()) == tree:
                return before
        return tree

    def test_lists_are_new(self):
        found = rules(*GROUP)
        told = completed(found, GROUP_SCALE, 5)
        self.assertIsNot(told[1], found)
        told[1].clear()
        told[2][0][1].clear()
        told[2].clear()
        self.assertEqual(len(found), 3)
        again = completed(found, GROUP_SCALE, 5)
        self.assertEqual([len(again[1]), len(again[2])], [5, 2])
        self.assertGreater(len(again[2][0][1]), 0)
        done = rules("(?a + 0) -> ?a")
        self.assertIsNot(completed(done, {})[1], done)


class RefusedTest(unittest.TestCase):
    LETS = "(let x = ?a in 1) -> ?a"
    RISING = "(?a + ?b) -> (?b + ?a)"
    GREAT_SCALE = {"mul": (9, 2, 3)}
    GREAT = "(say (say ((((1 * 1) * 1) * 1) * 1)))"

    def refused(self, error, texts, scale, most=12):
        with self.assertRaises(error) as caught:
            completed(rules(*texts), scale, most)
        self.assertIs(caught.exception.__class__, error)
        self.assertIsInstance(caught.exception, RecastError)
        return getattr(caught.exception, "number", None)

    def test_no_plain(self):
        self.assertEqual(self.refused(NoPlain, [self.LETS], {}), 0)
        self.assertEqual(self.refused(NoPlain, ["(?a + 0) -> ?a", self.LETS, self.LETS], {}), 1)

    def test_no_scale(self):
        for scale in NO_SCALES:
            with self.subTest(scale):
                self.refused(NoScale, [], scale)
                self.refused(NoScale, ["(?a + 0) -> ?a"], scale)

    def test_no_fall(self):
        self.assertEqual(self.refused(NoFall, [self.RISING], {}), 0)
        self.assertEqual(self.refused(NoFall, ["(?a + 0) -> ?a", self.RISING, self.RISING], {}), 1)

    def test_too_great(self):
        self.assertEqual(worth(read("(" + self.GREAT + " ; ?a)"), self.GREAT_SCALE), 200)
        for great in [self.GREAT, "(say " + self.GREAT + ")"]:
            texts = ["(" + great + " ; (?a + 0)) -> (1 ; ?a)", "(?a + 0) -> ?a"]
            if great == self.GREAT:
                self.assertEqual(completed(rules(*texts), self.GREAT_SCALE)[0], "done")
            else:
                self.refused(TooGreat, texts, self.GREAT_SCALE)
                self.refused(TooGreat, texts, self.GREAT_SCALE, 1)

    def test_too_great_behind_a_further_one(self):
        # The meet that is too great comes behind the first one, which is made a rule of.
        great = "(say " + self.GREAT + ")"
        texts = ["(1 + 2) -> (3 - 4)", "(1 + 2) -> 5", "(" + great + " ; (say (say ?a))) -> (1 ; ?a)", "(say (say ?a)) -> ?a"]
        scale = dict(self.GREAT_SCALE, add=(2, 1, 1))
        self.refused(TooGreat, texts, scale)
        self.assertEqual(completed(rules(*texts), scale, 4)[0], "many")

    def test_two_that_are_due_at_once(self):
        self.assertEqual(self.refused(NoPlain, [self.RISING, self.LETS], None), 1)
        self.refused(NoScale, [self.RISING], {"say": 1})
        great = ["(say ?a) -> 1", "(say " + self.GREAT + ") -> 2"]
        self.assertEqual(self.refused(NoFall, great + [self.RISING], self.GREAT_SCALE), 2)


if __name__ == "__main__":
    unittest.main()
