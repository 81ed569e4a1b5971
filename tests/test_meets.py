import itertools
import random
import unittest

from recastle.errors import NoFall, NoPlain, NoScale, RecastError, TooGreat
from recastle.fits import fit
from recastle.meets import meets, parted
from recastle.reads import read
from recastle.rules import form
from recastle.shows import shown
from recastle.trees import part_at, places
from recastle.turns import step, steps, turned, turned_by
from recastle.worth import falls, worth
from tests.helper import (
    NO_SCALES, called_alike, chance_of_kind, chance_plain_rules, gap_words, is_rule, put_for_gaps, rules,
)

NEST = "((?a + ?b) + ?c) -> (?a + (?b + ?c))"
NEST_SCALE = {"add": (1, 2, 1)}
GROUP = ["(0 + ?a) -> ?a", "((say ?a) + ?a) -> 0", NEST]

# Worth 198 and 199 by the scale.
GREAT_SCALE = {"mul": (9, 2, 3)}
GREAT = "(say (say ((((1 * 1) * 1) * 1) * 1)))"
GREATER = "(say " + GREAT + ")"


class NoShape(Exception):
    pass


class Laid:
    """Two shapes laid over one another by recursion, each gap told by what it stands for."""

    def __init__(self, kinds):
        self.trees = {}
        self.kinds = dict(kinds)

    def found(self, tree):
        while tree[0] == "gap" and tree[1] in self.trees:
            tree = self.trees[tree[1]]
        return tree

    def whole(self, tree, around=()):
        tree = self.found(tree)
        if tree[0] == "gap":
            return tree
        if tree in around:
            raise NoShape
        return tuple(self.whole(part, around + (tree,)) if isinstance(part, tuple) else part for part in tree)

    def stands_in(self, word, tree):
        tree = self.found(tree)
        if tree[0] == "gap":
            return tree[1] == word
        return any(self.stands_in(word, part) for part in tree[1:] if isinstance(part, tuple))

    def lay(self, one, other):
        one = self.found(one)
        other = self.found(other)
        if one == other:
            return
        if one[0] == "gap" or other[0] == "gap":
            gap, tree = (one, other) if one[0] == "gap" else (other, one)
            if self.stands_in(gap[1], tree):
                raise NoShape
            self.trees[gap[1]] = tree
            return
        if one[0] != other[0] or len(one) != len(other):
            raise NoShape
        for mine, its in zip(one[1:], other[1:]):
            if isinstance(mine, tuple):
                self.lay(mine, its)
            elif mine != its:
                raise NoShape

    def narrow(self, tree, kind):
        if tree[0] == "gap":
            if self.kinds.get(tree[1]) != "number":
                self.kinds[tree[1]] = kind
        elif kind == "number" and tree[0] != "num" or tree[0] in ("say", "ask", "stop"):
            raise NoShape
        elif kind == "quiet":
            for part in tree[1:]:
                if isinstance(part, tuple):
                    self.narrow(part, kind)


def expected_meet(rules, i, j, place):
    sides = []
    kinds = []
    for owner, rule in (("i", rules[i]), ("j", rules[j])):
        own = {word: ("gap", owner + word, ()) for side in rule[:2] for word in gap_words(side)}
        sides.append([put_for_gaps(side, own) for side in rule[:2]])
        kinds += [(owner + word, kind) for word, kind in rule[2]]
    laid = Laid(kinds)
    laid.lay(part_at(sides[0][0], place), sides[1][0])
    for word, kind in kinds:
        laid.narrow(laid.whole(("gap", word, ())), kind)
    shape = laid.whole(sides[0][0])
    one = laid.whole(sides[0][1])

    def put(tree, way):
        if not way:
            return laid.whole(sides[1][1])
        at = way[0] + 1
        return tree[:at] + (put(tree[at], way[1:]),) + tree[at + 1:]

    words = gap_words(shape)
    return (i, j, place) + called_alike(
        words, [(word, laid.kinds[word]) for word in set(words) if word in laid.kinds], shape, one, put(shape, place))


def expected_meets(rules):
    found = []
    for i, outer in enumerate(rules):
        for j in range(len(rules)):
            for place in places(outer[0]):
                if part_at(outer[0], place)[0] == "gap" or place == () and i >= j:
                    continue
                try:
                    found.append(expected_meet(rules, i, j, place))
                except NoShape:
                    pass
    return found


def meet_called_alike(meet):
    i, j, place, shape, kinds, one, other = meet
    return (i, j, place) + called_alike(gap_words(shape), kinds, shape, one, other)


def small_programs(size, leaves):
    """All programs of that size, of says, sums and these leaves."""
    if size == 1:
        return leaves
    found = [("say", tree) for tree in small_programs(size - 1, leaves)]
    for first in range(1, size - 1):
        for one in small_programs(first, leaves):
            found += [("add", one, other) for other in small_programs(size - 1 - first, leaves)]
    return found


class MeetsTest(unittest.TestCase):
    def met(self, texts, *expected):
        """Meets as rows (i, j, place, shape, one, other, kinds), the shapes as texts."""
        found = meets(rules(*texts))
        self.assertIsInstance(found, list)
        told = [meet_called_alike(meet) for meet in found]
        wanted = []
        for i, j, place, shape, one, other, kinds in expected:
            trees = [read(text) for text in (shape, one, other)]
            wanted.append((i, j, place) + called_alike(gap_words(trees[0]), kinds, *trees))
        self.assertEqual(told, wanted)
        self.assertEqual(told, expected_meets(rules(*texts)))

    def test_none(self):
        self.met([])
        self.met(["(?a + 0) -> ?a"])
        self.met(["(?a + 0) -> ?a", "(?a + 1) -> ?a"])
        self.met(["(?a + 0) -> ?a", "(?a - 0) -> ?a", "(say 1) -> 1"])

    def test_at_the_whole(self):
        self.met(["(?a + 0) -> ?a", "(0 + ?a) -> ?a"],
                 (0, 1, (), "(0 + 0)", "0", "0", ()))
        self.met(["(?a + 0) -> 1", "(?a + 0) -> 2"], (0, 1, (), "(?a + 0)", "1", "2", ()))
        self.met(["(?a + ?b) -> ?a", "(?b + ?a) -> ?a"], (0, 1, (), "(?a + ?b)", "?a", "?b", ()))
        self.met(["(1 + 2) -> 3", "(1 + 2) -> 4", "(1 + 2) -> 5"],
                 (0, 1, (), "(1 + 2)", "3", "4", ()), (0, 2, (), "(1 + 2)", "3", "5", ()),
                 (1, 2, (), "(1 + 2)", "4", "5", ()))

    def test_within(self):
        self.met(["(say (?a + 1)) -> ?a", "(?a + ?b) -> ?b"], (0, 1, (0,), "(say (?a + 1))", "?a", "(say 1)", ()))
        self.met(["(?a + ?b) -> ?b", "(say (?a + 1)) -> ?a"], (1, 0, (0,), "(say (?a + 1))", "?a", "(say 1)", ()))

    def test_with_itself(self):
        self.met([NEST], (0, 0, (0,), "(((?a + ?b) + ?c) + ?d)", "((?a + ?b) + (?c + ?d))",
                          "((?a + (?b + ?c)) + ?d)", ()))
        self.met(["(say (say ?a)) -> ?a"], (0, 0, (0,), "(say (say (say ?a)))", "(say ?a)", "(say ?a)", ()))
        self.met(["(say (say (say ?a))) -> ?a"],
                 (0, 0, (0,), "(say (say (say (say ?a))))", "(say ?a)", "(say ?a)", ()),
                 (0, 0, (0, 0), "(say (say (say (say (say ?a)))))", "(say (say ?a))", "(say (say ?a))", ()))
        self.met(["(?a + ?a) -> ?a"])

    def test_at_several_places_in_order(self):
        self.met(
            ["((say ?a) + (say (say 1))) -> ?a", "(say ?a) -> ?a"],
            (0, 1, (0,), "((say ?a) + (say (say 1)))", "?a", "(?a + (say (say 1)))", ()),
            (0, 1, (1,), "((say ?a) + (say (say 1)))", "?a", "((say ?a) + (say 1))", ()),
            (0, 1, (1, 0), "((say ?a) + (say (say 1)))", "?a", "((say ?a) + (say 1))", ()))

    def test_no_meet_at_a_gap(self):
        self.met(["(?a + 0) -> ?a", "(say ?b) -> ?b"])
        self.met(["(say ?a) -> ?a", "((say ?b) + ?a) -> ?b"], (1, 0, (0,), "((say ?a) + ?b)", "?a", "(?a + ?b)", ()))

    def test_in_order_of_the_rules(self):
        found = meets(rules(*GROUP))
        self.assertEqual([meet[:3] for meet in found], [(2, 0, (0,)), (2, 1, (0,)), (2, 2, (0,))])
        found = meets(rules("(say (say ?a)) -> ?a", "(say (say (say ?a))) -> ?a"))
        self.assertEqual([meet[:3] for meet in found], [
            (0, 0, (0,)), (0, 1, ()), (0, 1, (0,)), (1, 0, (0,)), (1, 0, (0, 0)), (1, 1, (0,)), (1, 1, (0, 0))])

    def test_gaps_called_alike(self):
        self.met(["(say (?a + ?b)) -> ?a", "(?b + (?a * 1)) -> ?b"],
                 (0, 1, (0,), "(say (?a + (?b * 1)))", "?a", "(say ?a)", ()))
        self.met(["(?a + (say ?b)) -> ?a", "((say ?a) + ?b) -> ?b"],
                 (0, 1, (), "((say ?a) + (say ?b))", "(say ?a)", "(say ?b)", ()))
        # Called otherwise, it is the same meet.
        self.met(["(?c + (say ?d)) -> ?c", "((say ?a) + ?b) -> ?b"],
                 (0, 1, (), "((say ?a) + (say ?b))", "(say ?a)", "(say ?b)", ()))

    def test_a_gap_that_would_stand_within_itself(self):
        self.met(["(?a + (say ?a)) -> ?a", "(?b + ?b) -> ?b"])
        self.met(["(?a + ((say ?a) - ?b)) -> ?a", "(?a + (?a - ?b)) -> ?b"])
        self.met(["((?a * ?b) + (?b - ?a)) -> 1", "((?a * (say ?b)) + ((say (say ?a)) - ?b)) -> 2"])
        self.met(["((?a * ?b) + (?b - ?a)) -> 1", "((?a * (say ?b)) + ((say ?a) - ?b)) -> 2"],
                 (0, 1, (), "((?a * (say ?a)) + ((say ?a) - ?a))", "1", "2", ()))
        # Not within itself: both are the same gap.
        self.met(["(?a + ?b) -> ?b", "(?b + ?b) -> 1"], (0, 1, (), "(?a + ?a)", "?a", "1", ()))

    def test_trees_that_are_laid_by_several_gaps(self):
        self.met(["((?a + ?a) - ?b) -> ?b", "((?a + (say ?b)) - (?b + ?a)) -> 1"],
                 (0, 1, (), "(((say ?b) + (say ?b)) - (?b + (say ?b)))", "(?b + (say ?b))", "1", ()))
        self.met(["((?a + ?b) - (?b + ?c)) -> 1", "((say ?a) - ?b) -> 2"])
        self.met(["((?a ; ?b) ; (?b ; ?c)) -> 1", "(((1 + ?a) ; ?b) ; ((2 + ?a) ; ?a)) -> 2"],
                 (0, 0, (0,), "(((?a ; ?b) ; (?b ; ?c)) ; ((?b ; ?c) ; ?d))", "1", "(1 ; ((?b ; ?c) ; ?d))", ()),
                 (0, 0, (1,), "((?a ; (?b ; ?c)) ; ((?b ; ?c) ; (?c ; ?d)))", "1", "((?a ; (?b ; ?c)) ; 1)", ()),
                 (0, 1, (), "(((1 + ?a) ; (2 + ?a)) ; ((2 + ?a) ; ?a))", "1", "2", ()),
                 (0, 1, (0,), "((((1 + ?a) ; ?b) ; ((2 + ?a) ; ?a)) ; (((2 + ?a) ; ?a) ; ?c))", "1",
                  "(2 ; (((2 + ?a) ; ?a) ; ?c))", ()),
                 (0, 1, (1,), "((?a ; ((1 + ?b) ; ?c)) ; (((1 + ?b) ; ?c) ; ((2 + ?b) ; ?b)))", "1",
                  "((?a ; ((1 + ?b) ; ?c)) ; 2)", ()))

    def test_kinds_that_narrow_one_another(self):
        number = (("a", "number"),)
        quiet = (("a", "quiet"),)
        for mine, its, expected in [
            ("quiet", "quiet", quiet), ("quiet", "number", number), ("number", "quiet", number),
            ("number", "number", number),
        ]:
            self.met([f"(say ?a) -> ?a where a {mine}", f"(say ?a) -> 1 where a {its}"],
                     (0, 1, (), "(say ?a)", "?a", "1", expected))
        for kind, expected in [("quiet", quiet), ("number", number)]:
            self.met([f"(say ?a) -> ?a where a {kind}", "(say ?a) -> 1"], (0, 1, (), "(say ?a)", "?a", "1", expected))
            self.met(["(say ?a) -> ?a", f"(say ?a) -> 1 where a {kind}"], (0, 1, (), "(say ?a)", "?a", "1", expected))
        self.met(["((?a + ?b) ; ?c) -> 1 where a quiet, b quiet, c quiet", "((?a + ?a) ; ?a) -> 2 where a number"],
                 (0, 1, (), "((?a + ?a) ; ?a)", "1", "2", number))
        self.met(["((?a + ?b) ; ?c) -> 1 where a quiet, b number", "((?a + ?a) ; ?a) -> 2"],
                 (0, 1, (), "((?a + ?a) ; ?a)", "1", "2", number))

    def test_kinds_of_trees(self):
        self.met(["(?a ; ?b) -> ?b where a quiet", "((?a + ?b) ; 1) -> ?a"],
                 (0, 1, (), "((?a + ?b) ; 1)", "1", "?a", (("a", "quiet"), ("b", "quiet"))))
        self.met(["(?a ; ?b) -> ?b where a quiet", "((?a + (?b + 3)) ; 1) -> ?a where b number"],
                 (0, 1, (), "((?a + (?b + 3)) ; 1)", "1", "?a", (("a", "quiet"), ("b", "number"))))
        self.met(["(?a ; ?b) -> ?b where a number", "(3 ; ?b) -> ?b"], (0, 1, (), "(3 ; ?b)", "?b", "?b", ()))
        self.met(["(?a ; ?b) -> ?b where b quiet", "(?a ; (if ?b then ?c else ?a)) -> 1"],
                 (0, 1, (), "(?a ; (if ?b then ?c else ?a))", "(if ?b then ?c else ?a)", "1",
                  (("a", "quiet"), ("b", "quiet"), ("c", "quiet"))))

    def test_kinds_that_no_tree_has(self):
        for loud in ["(say ?b)", "(ask w)", "(stop w)", "(1 + (say 1))", "(?b + (?b * (stop w)))"]:
            for kind in ["quiet", "number"]:
                self.met([f"(?a ; ?b) -> ?b where a {kind}", f"({loud} ; 1) -> 1"])
                self.met([f"({loud} ; 1) -> 1", f"(?a ; ?b) -> ?b where a {kind}"])
        self.met(["(?a ; ?b) -> ?b where a number", "((1 + 2) ; ?b) -> ?b"])
        self.met(["(?a ; ?b) -> ?b where a number", "((?a + ?b) ; ?b) -> ?b"])
        self.met(["(?a ; (?a + 1)) -> 1 where a quiet", "(?a ; ((say ?b) + ?b)) -> 1"])

    def test_kinds_that_come_by_another_gap(self):
        # The gap c has no kind of its own; it is a by way of b.
        self.met(["((?a + ?b) ; (?b + ?c)) -> 1 where a number", "((?a + ?a) ; (?b + ?b)) -> 2"],
                 (0, 1, (), "((?a + ?a) ; (?a + ?a))", "1", "2", (("a", "number"),)))
        self.met(["((?a + ?b) ; (?b + ?c)) -> 1 where a quiet", "((?a + ?a) ; ((say ?b) + ?b)) -> 2"])

    def test_the_kinds_are_in_the_order_of_texts(self):
        left = "(say (?f ; (?e - (?d * (?c + (if ?b then ?a else 1))))))"
        found = meets(rules(left + " -> 1 where a quiet, c number, e quiet, f number", left + " -> 2"))[0]
        self.assertEqual(found[:3], (0, 1, ()))
        self.assertEqual(found[4], tuple(sorted(found[4])))
        self.assertEqual(sorted(kind for word, kind in found[4]), ["number", "number", "quiet", "quiet"])

    def test_gaps_are_words(self):
        found = rules("((?a + ?b) ; (?c + (?d ; (?e - ?f)))) -> 1", "((?f + ?e) ; ?x) -> 2", NEST)
        for meet in meets(found):
            form((meet[3], ("num", 0), meet[4]))
            self.assertEqual(read(shown(meet[3])), meet[3])
            self.assertEqual(set(gap_words(meet[5])) - set(gap_words(meet[3])), set())

    def test_many_gaps(self):
        left = "(((?a ; ?b) ; (?c ; ?d)) ; (?e ; ?f))"
        told = meets(rules(left + " -> 1", left.replace("a", "z") + " -> 2"))
        self.assertEqual([meet_called_alike(meet) for meet in told], expected_meets(
            rules(left + " -> 1", left.replace("a", "z") + " -> 2")))

    def test_great_shapes(self):
        # Each gap is twice the next one.
        found = rules("(?a ; (?b ; (?c ; (?d ; (?e ; ?f))))) -> 1",
                      "((?b + ?b) ; ((?c + ?c) ; ((?d + ?d) ; (?e ; (?f ; 1))))) -> 2",
                      "(?a ; ((?a + ?a) ; (?b ; ((?b + ?b) ; (?a ; ?b))))) -> 3",
                      "(?a ; (?b ; (?b ; (?c ; (?d ; (?a + ?c)))))) -> 4")
        self.assertEqual([meet_called_alike(meet) for meet in meets(found)], expected_meets(found))

    def test_rules_by_chance(self):
        chance = random.Random(111)
        seen = 0
        for turn in range(250):
            found = chance_plain_rules(chance, 4, is_rule, depth=chance.choice([2, 3]))
            told = meets(found)
            seen += len(told)
            self.assertEqual([meet_called_alike(meet) for meet in told], expected_meets(found))
            for i, j, place, shape, kinds, one, other in told:
                self.assertEqual(one, step(found[i], shape, (), kinds))
                self.assertEqual(other, step(found[j], shape, place, kinds))
                self.assertIsInstance(kinds, tuple)
        self.assertGreater(seen, 300)

    def test_each_program_that_fits_both_is_made_of_the_shape(self):
        leaves = [("num", 0), ("num", 1), ("name", "x"), ("ask", "k")]
        programs = list(itertools.chain(*[small_programs(size, leaves) for size in range(2, 6)]))
        chance = random.Random(112)
        pool = [
            "(say ?a) -> ?a", "(say ?a) -> 1 where a quiet", "(?a + 0) -> ?a", "(?a + ?a) -> 0 where a number",
            "(?a + ?b) -> 1 where b quiet", "(say (?a + ?b)) -> ?a where a number", "(0 + (say ?a)) -> ?a",
            "((say ?a) + ?b) -> ?b", "(say (say ?a)) -> 1 where a number", "(?a + (?b + ?a)) -> ?a where b quiet",
        ]
        for turn in range(6):
            found = rules(*chance.sample(pool, 3))
            told = {meet[:3]: (meet[3], ("num", 0), meet[4]) for meet in meets(found)}
            for program in programs:
                for (number, place) in steps(found, program):
                    for i, outer in enumerate(found):
                        if fit(outer, program) is None or not place and i >= number:
                            continue
                        if place in places(outer[0]) and part_at(outer[0], place)[0] != "gap":
                            self.assertIsNotNone(fit(told[(i, number, place)], program))

    def test_nothing_handed_in_is_changed(self):
        found = rules(*GROUP)
        meets(found).clear()
        self.assertEqual(found, rules(*GROUP))
        self.assertEqual(len(meets(found)), 3)

    def test_no_plain(self):
        lets = "(let x = ?a in 1) -> ?a"
        for texts, number in [
            ([lets], 0), ([NEST, lets], 1), ([NEST, lets, lets], 1), ([NEST] * 11 + ["(1 + 2) -> (let x = 3 in x)"], 11),
            (["(let x = ?a in ?b[x]) -> ?b[1]", NEST], 0),
        ]:
            with self.assertRaises(NoPlain) as caught:
                meets(rules(*texts))
            self.assertIsInstance(caught.exception, RecastError)
            self.assertEqual(caught.exception.number, number)


class PartedTest(unittest.TestCase):
    def together(self, texts, scale):
        self.assertIsNone(parted(rules(*texts), scale))

    def told(self, texts, scale, meet, program, one, other):
        """The first that doesn't come together: its three numbers, and the texts, called alike by hand."""
        found = parted(rules(*texts), scale)
        self.assertIsInstance(found, tuple)
        self.assertEqual(found[0][:3], meet)
        self.assertEqual(found[0], meets(rules(*texts))[[one[:3] for one in meets(rules(*texts))].index(meet)])
        self.assertEqual([shown(tree) for tree in found[1:]], [program, one, other])

    def leaves(self, found, rules):
        """What stands in the program in the place of the gaps, by the gaps."""
        i, j, place, shape, kinds, one, other = found[0]
        filling = fit((shape, ("num", 0), kinds), found[1])
        self.assertIsNotNone(filling)
        leaves = {word: piece[1] for word, piece in filling.items()}
        self.assertEqual(put_for_gaps(shape, leaves), found[1])
        self.assertEqual(len(set(leaves.values())), len(leaves))
        signs = {"number": "num", "quiet": "name"}
        for word, leaf in leaves.items():
            self.assertEqual(leaf[0], signs.get(dict(kinds).get(word), "ask"))
            for rule in rules:
                for side in rule[:2]:
                    self.assertNotIn(leaf, [part_at(side, place) for place in places(side)])
        return leaves

    def test_come_together(self):
        self.together([], {})
        self.together(["(?a + 0) -> ?a"], {})
        self.together(["(?a + 0) -> ?a", "(0 + ?a) -> ?a"], {})
        self.together([NEST], NEST_SCALE)
        self.together(["(say (say ?a)) -> ?a"], {})
        self.together(["(?a + ?b) -> ?a", "(?a + ?a) -> ?a"], {})

    def test_only_behind_several_steps(self):
        # One takes three steps, other takes two more of another rule.
        texts = ["(say (?a - 0)) -> (say (say (say ?a)))", "(?a - 0) -> (?a ; ?a)", "(say ?a) -> 1"]
        scale = {"sub": (9, 2, 1)}
        self.together(texts, scale)
        meet = meets(rules(*texts))[0]
        ends = [turned(rules(*texts), tree, scale, "inner", meet[4]) for tree in meet[5:]]
        self.assertEqual([len(end[1]) for end in ends], [3, 1])
        done = ["((?a + ?b) + (?b + ?c)) -> ?b", "(?b + ((?b + ?c) + ?d)) -> (?b + ?c)",
                "((?a + (?b + ?c)) + ?c) -> (?b + ?c)"]
        self.together(done, {})
        self.assertIsNotNone(parted(rules(*done[:2]), {}))

    def test_only_where_gaps_are_held_fast_of_their_kinds(self):
        self.together(["((?a ; 1) + 1) -> 2 where a quiet", "(?a ; ?b) -> ?b where a quiet", "(1 + 1) -> 2"], {})
        self.assertIsNotNone(parted(
            rules("((?a ; 1) + 1) -> 2", "(?a ; ?b) -> ?b where a number", "(1 + 1) -> (1 ; 3)"), {"add": (9, 1, 1)}))
        # The gap is a number for the second rule too, though the second one asks for more.
        self.together(["(say (?a ; 1)) -> 1 where a number", "(?a ; ?b) -> ?b where a number", "(say 1) -> 1"], {})

    def test_not_together(self):
        self.told(GROUP, NEST_SCALE, (2, 1, (0,)), "(((say (ask a)) + (ask a)) + (ask b))",
                  "((say (ask a)) + ((ask a) + (ask b)))", "(ask b)")
        self.told(["(?a + ?b) -> ?a", "(?a + ?b) -> ?b"], {}, (0, 1, ()), "((ask a) + (ask b))", "(ask a)", "(ask b)")
        self.told(["(1 + 2) -> 3", "(1 + 2) -> 4"], {}, (0, 1, ()), "(1 + 2)", "3", "4")

    def test_the_first_of_several(self):
        texts = ["(1 + 2) -> 3", "(1 + 2) -> 3", "(1 + 2) -> 4", "(1 + 2) -> 5"]
        self.told(texts, {}, (0, 2, ()), "(1 + 2)", "3", "4")

    def test_leaves_of_each_kind(self):
        left = "((?a + ?b) ; ((?c + ?d) ; (?e + ?f)))"
        kinds = " where a number, b number, c quiet, d quiet"
        found = rules(left + " -> (?a ; (?b ; ?c))" + kinds, left + " -> (?d ; (?e ; ?f))" + kinds,
                      "(0 - 1) -> 3", "((ask a) - (stop b)) -> 4", "((ask c) - 2) -> 5")
        told = parted(found, {})
        leaves = self.leaves(told, found)
        signs = sorted(leaf[0] for leaf in leaves.values())
        self.assertEqual(signs, ["ask", "ask", "name", "name", "num", "num"])
        self.assertEqual([told[2], told[3]], [
            put_for_gaps(told[0][5], leaves), put_for_gaps(told[0][6], leaves)])

    def test_numbers_and_asks_that_stand_at_the_right_alone(self):
        found = rules("(?a + ?b) -> ?a where a number", "(?a + ?b) -> 0", "((ask b) - ?b) -> ((ask a) ; 1)", "(0 * 1) -> 2")
        leaves = self.leaves(parted(found, {"sub": (2, 1, 1)}), found)
        self.assertEqual(len(leaves), 2)
        self.assertGreater([leaf for leaf in leaves.values() if leaf[0] == "num"][0][1], 2)

    def test_the_ends_are_turned_whole(self):
        texts = ["(?a ; (?b ; 0)) -> ((?a + 0) - ?b)", "(?a ; 0) -> (?a + 0)", "(?a + 0) -> ?a"]
        self.told(texts, {"then": (2, 1, 1)}, (0, 1, (1,)), "((ask a) ; ((ask b) ; 0))", "((ask a) - (ask b))",
                  "((ask a) ; (ask b))")

    def test_rules_by_chance(self):
        chance = random.Random(113)
        seen = {True: 0, False: 0}
        for turn in range(250):
            found = chance_plain_rules(chance, chance.choice([2, 3]), lambda rule: is_rule(rule) and falls(rule, {}))
            told = parted(found, {})
            seen[told is None] += 1
            for meet in meets(found):
                i, j, place, shape, kinds, one, other = meet
                ends = [turned(found, tree, {}, "inner", kinds)[0] for tree in (one, other)]
                if ends[0] != ends[1]:
                    break
            else:
                self.assertIsNone(told)
                self.all_orders_end_alike(chance, found)
                continue
            self.assertEqual(told[0], meet)
            leaves = self.leaves(told, found)
            self.assertEqual(told[2:], tuple(put_for_gaps(end, leaves) for end in ends))
            self.assertEqual(told[2], turned(found, step(found[i], told[1], ()), {})[0])
            self.assertEqual(told[3], turned(found, step(found[j], told[1], place), {})[0])
            self.assertNotEqual(told[2], told[3])
        self.assertGreater(min(seen.values()), 40)

    def all_orders_end_alike(self, chance, found):
        for turn in range(6):
            outer = chance.choice(found)
            kinds = dict(outer[2])
            pieces = {word: chance_of_kind(chance, kinds.get(word)) for word in set(gap_words(outer[0]))}
            program = ("add", put_for_gaps(outer[0], pieces), chance_of_kind(chance, None))
            ends = {turned(found, program, {}, way)[0] for way in ("inner", "outer")}
            for order in range(3):
                ends.add(turned_by(found, program, {}, lambda told: chance.randrange(len(told)))[0])
            self.assertEqual(len(ends), 1)

    def test_nothing_handed_in_is_changed(self):
        found = rules(*GROUP)
        scale = dict(NEST_SCALE)
        parted(found, scale)
        self.assertEqual((found, scale), (rules(*GROUP), NEST_SCALE))


class RefusedTest(unittest.TestCase):
    LETS = "(let x = ?a in 1) -> ?a"
    RISING = "(?a + ?b) -> (?b + ?a)"

    def refused(self, error, texts, scale):
        with self.assertRaises(error) as caught:
            parted(rules(*texts), scale)
        self.assertIs(caught.exception.__class__, error)
        self.assertIsInstance(caught.exception, RecastError)
        return getattr(caught.exception, "number", None)

    def test_no_plain(self):
        self.assertEqual(self.refused(NoPlain, [self.LETS], {}), 0)
        self.assertEqual(self.refused(NoPlain, [NEST, self.LETS, self.LETS], NEST_SCALE), 1)

    def test_no_scale(self):
        for scale in NO_SCALES:
            with self.subTest(scale):
                self.refused(NoScale, [], scale)
                self.refused(NoScale, ["(?a + 0) -> ?a"], scale)

    def test_no_fall(self):
        self.assertEqual(self.refused(NoFall, [self.RISING], {}), 0)
        self.assertEqual(self.refused(NoFall, [NEST], {}), 0)
        self.assertEqual(self.refused(NoFall, ["(?a + 0) -> ?a", self.RISING, self.RISING], {}), 1)

    def test_two_that_are_due_at_once(self):
        self.assertEqual(self.refused(NoPlain, [self.RISING, self.LETS], {}), 1)
        self.assertEqual(self.refused(NoPlain, [self.RISING, self.LETS], None), 1)
        self.refused(NoScale, [self.RISING], {"say": 1})
        great = ["(" + GREATER + " ; (?a + 0)) -> (1 ; ?a)", "(?a + 0) -> ?a"]
        self.refused(TooGreat, great, GREAT_SCALE)
        self.assertEqual(self.refused(NoFall, great + [self.RISING], GREAT_SCALE), 2)
        self.refused(NoScale, great + [self.RISING], {"mul": (9, 2, 4)})
        self.assertEqual(self.refused(NoPlain, great + [self.LETS, self.RISING], GREAT_SCALE), 2)

    def test_worth(self):
        self.assertEqual(worth(read(GREAT), GREAT_SCALE), 198)
        self.assertEqual(worth(read(GREATER), GREAT_SCALE), 199)

    def test_too_great_an_other(self):
        for great, expected in [(GREAT, 200), (GREATER, 201)]:
            texts = ["(" + great + " ; (?a + 0)) -> (1 ; ?a)", "(?a + 0) -> ?a", "(" + great + " ; ?a) -> (1 ; ?a)"]
            self.assertEqual(max(worth(tree, GREAT_SCALE) for meet in meets(rules(*texts)) for tree in meet[5:]), expected)
            if expected == 200:
                self.assertIsNone(parted(rules(*texts), GREAT_SCALE))
                self.assertEqual(parted(rules(*texts[:2]), GREAT_SCALE)[0][:3], (0, 1, (1,)))
            else:
                self.refused(TooGreat, texts, GREAT_SCALE)
                self.refused(TooGreat, texts[:2], GREAT_SCALE)

    def test_too_great_a_one(self):
        for great, expected in [(GREAT, 200), (GREATER, 201)]:
            texts = ["(" + great + " - ?a) -> (" + great + " ; ?a)", great + " -> 1", "(1 - ?a) -> (1 ; ?a)"]
            scale = dict(GREAT_SCALE, sub=(2, 1, 1))
            self.assertEqual([worth(tree, scale) for tree in meets(rules(*texts))[0][5:]], [expected, 4])
            if expected == 200:
                self.assertIsNone(parted(rules(*texts), scale))
                self.assertIsNotNone(parted(rules(*texts[:2]), scale))
            else:
                with self.assertRaises(TooGreat):
                    parted(rules(*texts), scale)

    def test_none_behind_the_first_that_does_not_come_together(self):
        apart = ["(1 + 2) -> 3", "(1 + 2) -> 4"]
        great = ["(" + GREATER + " ; (say (say ?a))) -> (1 ; ?a)", "(say (say ?a)) -> ?a"]
        self.assertEqual(parted(rules(*apart), GREAT_SCALE)[0][:3], (0, 1, ()))
        self.assertEqual(parted(rules(*(apart + great)), GREAT_SCALE)[0][:3], (0, 1, ()))
        self.refused(TooGreat, great + apart, GREAT_SCALE)
        self.refused(TooGreat, great, GREAT_SCALE)


if __name__ == "__main__":
    unittest.main()
