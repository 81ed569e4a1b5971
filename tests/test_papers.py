import random
import unittest

from recastle.fits import filled
from recastle.papers import is_paper, paper, side_run
from recastle.reads import read, read_rule
from recastle.rules import form
from recastle.runs import run
from recastle.sums import minus, plus, times
from recastle.tries import tried
from tests.helper import chance_filling, chance_rules, chance_shapes

END = 10 ** 30
NOUGHT = ()


def number(many):
    return (((), many),) if many else ()


def unknown(word, *sums):
    return (word, tuple(sums))


def alone(told):
    return (((told,), 1),)


def ends(told):
    return ("ends", told)


def nought(told):
    return ("nought", told)


A = unknown("a")
B = unknown("b")
C = unknown("c")
ASK = unknown("ask w")
ALL_QUIET = tuple((word, "quiet") for word in "abcdefgh")

# Sides, by how many products or unknowns their greatest sum has.
FORTY_PRODUCTS = "(let x = (((1 + ?a) + ?b) + ?c) in ((x * x) * (((1 + ?d) + ?e) + ?f)))"
MORE_PRODUCTS = "(" + FORTY_PRODUCTS + " + (?a * ?d))"
FORTY_ONE_PRODUCTS = "(" + FORTY_PRODUCTS + " + (ask w))"
MANY_PRODUCTS = "(let x = ((1 + ?a) + ?b) in (let y = (x * x) in (let z = (y * y) in (z * z))))"
FORTY_FACTORS = "(let x = (?a * ?a) in (let y = ((x * x) * ?a) in (let z = (y * y) in (let u = (z * z) in (u * u)))))"
FORTY_ONE_FACTORS = "(" + FORTY_FACTORS + " * ?a)"
FORTY_ONE_UNLIKE = "(" + FORTY_FACTORS + " * ?b)"
FOUR_WITHIN = "(let x = ?a in (let y = ?f[x] in (let z = ?g[y] in ?h[z])))"
FIVE_WITHIN = "(let x = ?a in (let y = ?f[x] in (let z = ?g[y] in (let u = ?h[z] in ?k[u]))))"
WITHIN_KINDS = (("a", "quiet"), ("f", "quiet"), ("g", "quiet"), ("h", "quiet"))
WITHIN_FOUR = unknown("h", alone(unknown("g", alone(unknown("f", alone(A))))))
WITHIN_FIVE = unknown("k", alone(WITHIN_FOUR))

EIGHT = ("(((if ?a then 1 else 2) ; (if ?b then 3 else 4)) ; ((if ?c then 5 else 6) ; (?d ; ?e)))")
NINE = ("(((if ?a then 1 else 2) ; (if ?b then 3 else 4)) ; ((if ?c then 5 else 6) ; ((?d ; ?e) ; ?f)))")


class Over(Exception):
    """The run is over, with what is told of it."""


class Words:
    """A side run by the words of the document, by recursion; the order of looking at sums is that of the run."""

    def __init__(self, kinds, facts):
        self.kinds = dict(kinds)
        self.facts = dict(facts)
        self.deeds = []

    def known(self, question):
        if question not in self.facts:
            raise Over("asks", question)
        return self.facts[question]

    def depth(self, told):
        return 1 + max([self.depth(one) for atom in told[1] for product, many in atom for one in product] + [0])

    def looked_at(self, told):
        great = len(told) > 40 or any(len(product) > 40 for product, many in told)
        if great or any(self.depth(one) > 4 for product, many in told for one in product):
            raise Over("great")
        return told

    def end(self, told):
        return NOUGHT if self.facts.get(nought(alone(told))) else self.looked_at(alone(told))

    def gap(self, tree, names):
        told = unknown(tree[1], *[self.run(atom, names) for atom in tree[2]])
        if tree[1] not in self.kinds:
            self.deeds.append(("gap", told))
            if not self.known(ends(told)):
                raise Over("through", ("gap", told))
        return self.end(told)

    def run(self, tree, names):
        sign = tree[0]
        if sign == "num":
            return number(tree[1])
        if sign == "name":
            return names[tree[1]]
        if sign == "gap":
            return self.gap(tree, names)
        if sign == "ask":
            self.deeds.append(tree)
            return self.end(unknown("ask " + tree[1]))
        if sign == "stop":
            raise Over("through", tree)
        if sign == "let":
            return self.run(tree[3], {**names, tree[1]: self.run(tree[2], names)})
        first = self.run(tree[1], names)
        if sign == "say":
            self.deeds.append(("say", first))
            return first
        if sign == "if":
            is_nought = not first
            if any(product for product, many in first):
                is_nought = self.known(nought(first))
            return self.run(tree[3] if is_nought else tree[2], names)
        second = self.run(tree[2], names)
        if sign == "then":
            return second
        return self.looked_at({"add": plus, "sub": minus, "mul": times}[sign](first, second))

    def told(self, side):
        try:
            return ("through", self.deeds, ("is", self.run(side, {})))
        except Over as over:
            if over.args[0] == "great":
                return None
            if over.args[0] == "asks":
                return over.args
            return ("through", self.deeds, over.args[1])


def expected_paper(rule, facts=()):
    """The paper by the words, by the second way to run a side."""
    runs = [Words(rule[2], facts).told(side) for side in rule[:2]]
    for told in runs:
        if told is None:
            return None
        if told[0] == "asks":
            if len(facts) == 8:
                return None
            yes, no = [expected_paper(rule, facts + ((told[1], answer),)) for answer in (True, False)]
            return None if yes is None or no is None else ("ask", told[1], yes, no)
    return ("same",) if runs[0] == runs[1] else None


def is_expected_paper(rule, told, facts=()):
    if told[0] == "ask":
        rest = tuple(fact for fact in facts if fact[0] != told[1])
        return is_expected_paper(rule, told[2], rest + ((told[1], True),)) and is_expected_paper(
            rule, told[3], rest + ((told[1], False),))
    runs = [Words(rule[2], facts).told(side) for side in rule[:2]]
    return runs[0] is not None and runs[0][0] == "through" and runs[0] == runs[1]


def all_questions(told):
    if told[0] == "same":
        return []
    return [told[1]] + all_questions(told[2]) + all_questions(told[3])


def depth_of(told):
    return 0 if told[0] == "same" else 1 + max(depth_of(told[2]), depth_of(told[3]))


def pruned(told):
    """The papers that come of one by putting a part of it in the place of a question around that part."""
    if told[0] == "ask":
        yield told[2]
        yield told[3]
        for inner in pruned(told[2]):
            yield told[:2] + (inner, told[3])
        for inner in pruned(told[3]):
            yield told[:3] + (inner,)


def rule_of(text):
    rule = read_rule(text)
    form(rule)
    return rule


class SideRunTest(unittest.TestCase):
    def through(self, text, end, deeds=(), kinds=(), facts=()):
        with self.subTest(text=text, facts=facts):
            told = side_run(read(text), kinds, facts)
            self.assertEqual(told, ("through", list(deeds), end))
            self.assertIsInstance(told[1], list)

    def asks(self, text, question, kinds=(), facts=()):
        with self.subTest(text=text, facts=facts):
            self.assertEqual(side_run(read(text), kinds, facts), ("asks", question))

    def test_numbers(self):
        self.through("(1 + 2)", ("is", number(3)))
        self.through("(1 - 1)", ("is", NOUGHT))
        self.through("(0 * 5)", ("is", NOUGHT))
        self.through("(0 - 1)", ("is", number(END - 1)))
        self.through("(let x = 4 in (x * x))", ("is", number(16)))
        self.through("(let x = 4 in (let y = (x + 1) in (y - x)))", ("is", number(1)))
        self.through("((let x = 4 in x) + (let x = 5 in x))", ("is", number(9)))
        self.through("(1 ; 2)", ("is", number(2)))
        self.through("((2 ; 3) * 5)", ("is", number(15)))

    def test_kinds_left_out(self):
        self.assertEqual(side_run(read("(1 + 2)"), None, ()), ("through", [], ("is", number(3))))
        self.assertEqual(side_run(read("(?a + 2)"), None, ()), ("asks", ends(A)))

    def test_a_gap_whose_end_is_not_known(self):
        self.asks("(?a + 1)", ends(A))
        self.asks("((say 2) + ?a)", ends(A))
        self.asks("(?a + ?b)", ends(A))
        self.asks("(?a + ?b)", ends(A), (), ((ends(B), True),))
        self.asks("(?a + ?b)", ends(B), (), ((ends(A), True),))
        self.asks("(?a + ?b)", ends(A), (), ((nought(alone(A)), True),))

    def test_a_gap_that_ends(self):
        self.through("(?a + 1)", ("is", plus(number(1), alone(A))), [("gap", A)], (), ((ends(A), True),))
        self.through("(?a + ?a)", ("is", (((A,), 2),)), [("gap", A)] * 2, (), ((ends(A), True),))
        self.through("(?b * ?a)", ("is", (((A, B), 1),)), [("gap", B), ("gap", A)], (),
                     ((ends(A), True), (ends(B), True)))
        self.through("(?a - ?a)", ("is", NOUGHT), [("gap", A)] * 2, (), ((ends(A), True),))

    def test_a_gap_that_does_not_end(self):
        self.through("(?a + 1)", ("gap", A), [("gap", A)], (), ((ends(A), False),))
        self.through("((say 1) ; (?a + (say 2)))", ("gap", A), [("say", number(1)), ("gap", A)], (), ((ends(A), False),))
        self.through("(let x = ?a in (stop w))", ("gap", A), [("gap", A)], (), ((ends(A), False),))
        self.through("(?a + ?b)", ("gap", B), [("gap", A), ("gap", B)], (), ((ends(A), True), (ends(B), False)))

    def test_an_end_that_is_known_to_be_nought(self):
        facts = ((ends(A), True), (nought(alone(A)), True))
        self.through("(?a + 1)", ("is", number(1)), [("gap", A)], (), facts)
        self.through("(say ?a)", ("is", NOUGHT), [("gap", A), ("say", NOUGHT)], (), facts)
        self.through("(if ?a then 1 else 2)", ("is", number(2)), [("gap", A)], (), facts)
        self.through("(?a + 1)", ("is", plus(alone(A), number(1))), [("gap", A)], (),
                     ((ends(A), True), (nought(alone(A)), False)))
        self.through("(?a + 1)", ("is", number(1)), [], (("a", "quiet"),), ((nought(alone(A)), True),))
        self.through("(?a + 1)", ("is", number(1)), [], (("a", "number"),), ((nought(alone(A)), True),))
        self.through("((ask w) + 1)", ("is", number(1)), [("ask", "w")], (), ((nought(alone(ASK)), True),))
        # A sum that is known to be nought is so by itself alone.
        twice = plus(alone(A), alone(A))
        self.through("(?a + ?a)", ("is", twice), [], (("a", "quiet"),), ((nought(twice), True),))
        self.through("(?a + 1)", ("gap", A), [("gap", A)], (), ((ends(A), False), (nought(alone(A)), True)))

    def test_quiet_gaps_and_numbers(self):
        for kind in ("quiet", "number"):
            self.through("(?a + 1)", ("is", plus(number(1), alone(A))), [], (("a", kind),))
            self.through("((say ?a) ; 1)", ("is", number(1)), [("say", alone(A))], (("a", kind),))
            self.through("(?a + 1)", ("is", plus(number(1), alone(A))), [], (("a", kind),), ((ends(A), False),))
        self.asks("(?a + ?b)", ends(B), (("a", "quiet"),))

    def test_asks(self):
        self.through("(say (ask w))", ("is", alone(ASK)), [("ask", "w"), ("say", alone(ASK))])
        self.through("((ask w) - (ask w))", ("is", NOUGHT), [("ask", "w")] * 2)
        self.through("((ask w) - (ask v))", ("is", minus(alone(ASK), alone(unknown("ask v")))),
                     [("ask", "w"), ("ask", "v")])
        self.asks("(if (ask w) then 1 else 2)", nought(alone(ASK)))
        self.through("(if (ask w) then 1 else 2)", ("is", number(1)), [("ask", "w")], (), ((nought(alone(ASK)), False),))

    def test_stops(self):
        self.through("((say 1) ; ((stop w) + (say 2)))", ("stop", "w"), [("say", number(1))])
        self.through("((stop w) ; ?a)", ("stop", "w"))
        self.asks("(?a ; (stop w))", ends(A))
        self.through("(?a ; (stop w))", ("stop", "w"), [("gap", A)], (), ((ends(A), True),))
        self.through("(let x = (stop v) in (if x then (stop w) else 1))", ("stop", "v"))
        self.through("(say (stop w))", ("stop", "w"))

    def test_if_by_a_number(self):
        self.through("(if 2 then 3 else (stop w))", ("is", number(3)))
        self.through("(if 0 then (stop w) else 4)", ("is", number(4)))
        self.through("(if (3 - 3) then 1 else 2)", ("is", number(2)))
        self.through("(if (?a - ?a) then 1 else 2)", ("is", number(2)), [], (("a", "quiet"),))
        self.through("(if ((?a + 1) - ?a) then 1 else 2)", ("is", number(1)), [], (("a", "quiet"),))
        # A fact about a sum without an unknown is one that nothing asks for.
        self.through("(if 2 then 3 else 4)", ("is", number(3)), [], (), ((nought(number(2)), True),))
        self.through("(if 0 then 3 else 4)", ("is", number(4)), [], (), ((nought(NOUGHT), False),))

    def test_if_by_one_unknown(self):
        quiet = (("a", "quiet"),)
        self.asks("(if ?a then 1 else 2)", nought(alone(A)), quiet)
        self.through("(if ?a then 1 else 2)", ("is", number(2)), [], quiet, ((nought(alone(A)), True),))
        self.through("(if ?a then 1 else 2)", ("is", number(1)), [], quiet, ((nought(alone(A)), False),))
        self.asks("(if ?a then 1 else 2)", nought(alone(A)), (), ((ends(A), True),))
        self.asks("(if (0 - ?a) then 1 else 2)", nought(minus(NOUGHT, alone(A))), quiet, ((nought(alone(A)), False),))
        self.through("(if (0 - ?a) then 1 else 2)", ("is", number(2)), [], quiet, ((nought(alone(A)), True),))

    def test_if_by_a_sum_of_several(self):
        several = plus(plus(alone(A), alone(B)), number(3))
        text = "(if ((?b + 3) + ?a) then (say 1) else (stop w))"
        quiet = (("a", "quiet"), ("b", "number"))
        self.asks(text, nought(several), quiet)
        self.asks(text, nought(several), quiet, ((nought(alone(A)), False),))
        self.through(text, ("is", number(1)), [("say", number(1))], quiet, ((nought(several), False),))
        self.through(text, ("stop", "w"), [], quiet, ((nought(several), True),))
        self.asks(text, nought(plus(alone(B), number(3))), quiet, ((nought(several), False), (nought(alone(A)), True)))
        self.asks("(if (?a * ?b) then 1 else 2)", nought((((A, B), 1),)), quiet)

    def test_facts_in_any_order(self):
        text = "((if ?a then ?b else 1) + (if ?b then 2 else 3))"
        facts = [(ends(A), True), (nought(alone(A)), False), (ends(B), True), (nought(alone(B)), True),
                 (ends(C), False), (nought(alone(C)), True), (nought(number(1)), True)]
        for turn in range(20):
            random.Random(turn).shuffle(facts)
            self.through(text, ("is", number(3)), [("gap", A), ("gap", B), ("gap", B)], (), tuple(facts))

    def test_atoms(self):
        quiet = (("a", "quiet"), ("b", "quiet"))
        of_a = unknown("b", alone(A))
        self.through("(let x = ?a in ?b[x])", ("is", alone(of_a)), [], quiet)
        self.asks("(let x = ?a in ?b[x])", ends(of_a), (("a", "quiet"),))
        self.through("(let x = ?a in ?b[x])", ("gap", of_a), [("gap", of_a)], (("a", "quiet"),), ((ends(of_a), False),))
        self.through("(let x = ?a in ?b[x])", ("is", NOUGHT), [], quiet, ((nought(alone(of_a)), True),))
        self.through("(let x = ?a in ?b[x])", ("is", alone(unknown("b", NOUGHT))), [], quiet, ((nought(alone(A)), True),))
        self.through("(?b[7] - ?b[0])", ("is", minus(alone(unknown("b", number(7))), alone(unknown("b", NOUGHT)))), [],
                     quiet)
        self.through("(let x = ?a in (let y = (x + 2) in ?b[y x 3]))",
                     ("is", alone(unknown("b", plus(alone(A), number(2)), alone(A), number(3)))), [], quiet)
        numbers = (("b", "quiet"), ("n", "number"))
        of_n = unknown("b", alone(unknown("n")))
        self.through("(1 + ?b[?n])", ("is", plus(number(1), alone(of_n))), [], numbers)
        self.through("(1 + ?b[?n])", ("is", plus(number(1), alone(unknown("b", NOUGHT)))), [], numbers,
                     ((nought(alone(unknown("n"))), True),))
        self.asks("(1 + ?b[?n])", ends(of_n), (("n", "number"),))

    def test_unknowns_in_order(self):
        told = side_run(read("((?c * ?a) + ((ask w) * ?b))"), ALL_QUIET, ())
        self.assertEqual(told[2], ("is", (((A, C), 1), ((ASK, B), 1))))

    def test_products(self):
        for text, many in [(FORTY_PRODUCTS, 40), (MORE_PRODUCTS, 40)]:
            told = side_run(read(text), ALL_QUIET, ())
            self.assertEqual((told[0], len(told[2][1])), ("through", many))
        for text in [FORTY_ONE_PRODUCTS, MANY_PRODUCTS, "(" + MANY_PRODUCTS + " * 0)", "(0 - " + MANY_PRODUCTS + ")",
                     "((" + MANY_PRODUCTS + " ; 1) ; (stop w))"]:
            self.assertIsNone(side_run(read(text), ALL_QUIET, ()), text)
        self.through("((stop w) + " + FORTY_ONE_PRODUCTS + ")", ("stop", "w"), [], ALL_QUIET)
        self.through("(if 1 then 2 else " + MANY_PRODUCTS + ")", ("is", number(2)), [], ALL_QUIET)

    def test_factors(self):
        self.through(FORTY_FACTORS, ("is", (((A,) * 40, 1),)), [], ALL_QUIET)
        self.through("(" + FORTY_FACTORS + " + ?b)", ("is", (((A,) * 40, 1), ((B,), 1))), [], ALL_QUIET)
        for text in [FORTY_ONE_FACTORS, FORTY_ONE_UNLIKE, "(" + FORTY_FACTORS + " * (1 + ?b))"]:
            self.assertIsNone(side_run(read(text), ALL_QUIET, ()), text)
        self.through("(" + FORTY_FACTORS + " * ?b)", ("is", NOUGHT), [], ALL_QUIET, ((nought(alone(B)), True),))

    def test_unknowns_within(self):
        self.through(FOUR_WITHIN, ("is", alone(WITHIN_FOUR)), [], WITHIN_KINDS)
        self.assertIsNone(side_run(read(FIVE_WITHIN), WITHIN_KINDS + (("k", "quiet"),), ()))
        # The deed and the question of an unknown go first; only the sum that it ends with is looked at.
        self.asks(FIVE_WITHIN, ends(WITHIN_FIVE), WITHIN_KINDS)
        self.assertIsNone(side_run(read(FIVE_WITHIN), WITHIN_KINDS, ((ends(WITHIN_FIVE), True),)))
        self.through(FIVE_WITHIN, ("gap", WITHIN_FIVE), [("gap", WITHIN_FIVE)], WITHIN_KINDS,
                     ((ends(WITHIN_FIVE), False),))
        self.through(FIVE_WITHIN, ("is", NOUGHT), [("gap", WITHIN_FIVE)], WITHIN_KINDS,
                     ((ends(WITHIN_FIVE), True), (nought(alone(WITHIN_FIVE)), True)))
        self.through(FIVE_WITHIN, ("is", NOUGHT), [], WITHIN_KINDS + (("k", "quiet"),),
                     ((nought(alone(WITHIN_FIVE)), True),))
        # Unknowns beside one another are not within one another, and the deepest of several counts.
        self.through("(let x = ?a in (let y = ?f[x] in (?f[y] + ?g[y])))",
                     ("is", plus(alone(unknown("f", alone(unknown("f", alone(A))))),
                                 alone(unknown("g", alone(unknown("f", alone(A))))))), [], WITHIN_KINDS)
        self.assertIsNone(side_run(
            read("(let x = ?a in (let y = ?f[x] in (let z = ?g[y] in (let u = (z + ?h[z]) in ?k[1 u 2]))))"),
            WITHIN_KINDS + (("k", "quiet"),), ()))

    def test_a_question_ahead_of_such_a_sum(self):
        for great in [FORTY_ONE_PRODUCTS, FORTY_ONE_FACTORS, FIVE_WITHIN]:
            kinds = ALL_QUIET + (("k", "quiet"),)
            self.assertIsNone(side_run(read(great), kinds, ()))
            self.asks("(?z ; " + great + ")", ends(unknown("z")), kinds)
            self.assertIsNone(side_run(read("(?z ; " + great + ")"), kinds, ((ends(unknown("z")), True),)))
            self.through("(?z ; " + great + ")", ("gap", unknown("z")), [("gap", unknown("z"))], kinds,
                         ((ends(unknown("z")), False),))
            self.assertIsNone(side_run(read("(" + great + " ; ?z)"), kinds, ()))
            self.asks("(if ?a then " + great + " else 1)", nought(alone(A)), kinds)
            self.through("(if ?a then " + great + " else 1)", ("is", number(1)), [], kinds, ((nought(alone(A)), True),))

    def test_many_sides(self):
        chance = random.Random(91)
        seen = {"through": 0, "asks": 0, None: 0}
        for side in chance_shapes(92, 1200) + chance_shapes(93, 600, depth=4):
            kinds = tuple((word, "quiet") for word in "abnpqr" if chance.random() < 0.6)
            facts = {}
            while True:
                handed_in = tuple(chance.sample(list(facts.items()), len(facts)))
                told = side_run(side, kinds, handed_in)
                self.assertEqual(told, Words(kinds, handed_in).told(side))
                seen[told and told[0]] += 1
                if told is None or told[0] == "through":
                    break
                self.assertNotIn(told[1], facts)
                facts[told[1]] = chance.random() < 0.7
        self.assertGreater(min(seen["through"], seen["asks"]), 1000)

    def test_nothing_handed_in_is_changed(self):
        facts = [(ends(A), True)]
        kinds = [("b", "quiet")]
        told = side_run(read("(?a + ?b)"), kinds, facts)
        told[1].clear()
        self.assertEqual((kinds, facts), ([("b", "quiet")], [(ends(A), True)]))
        self.assertEqual(side_run(read("(?a + ?b)"), kinds, facts)[1], [("gap", A)])

    def test_deep_sides(self):
        tree = ("num", 1)
        for turn in range(300):
            tree = ("add", tree, ("num", 1))
        self.assertEqual(side_run(tree, (), ()), ("through", [], ("is", number(301))))


class PaperTest(unittest.TestCase):
    def has(self, text, expected):
        with self.subTest(text):
            rule = rule_of(text)
            self.assertEqual(paper(rule), expected)
            self.assertEqual(expected_paper(rule), expected)
            if expected is not None:
                self.assertIs(is_paper(rule, expected), True)

    def test_without_questions(self):
        self.has("(1 + 2) -> 3", ("same",))
        self.has("(1 + 2) -> 4", None)
        self.has("(?a - ?a) -> 0 where a quiet", ("same",))
        self.has("((?a + ?b) * (?a - ?b)) -> ((?a * ?a) - (?b * ?b)) where a quiet, b number", ("same",))
        self.has("(?a + ?b) -> (?b + ?a) where a quiet, b quiet", ("same",))
        self.has("(let x = ?a in ?b[x]) -> ?b[?a] where a number, b quiet", ("same",))
        self.has("((stop w) + ?a) -> (stop w)", ("same",))
        self.has("((say 1) ; (say 2)) -> (say 2)", None)
        self.has("(say (ask w)) -> (ask w)", None)
        self.has("((ask w) + (ask v)) -> ((ask v) + (ask w))", None)
        self.has("((ask w) * 2) -> (let x = (ask w) in (x + x))", ("same",))
        self.has("(1 + (stop w)) -> (stop v)", None)

    def test_questions_about_ends(self):
        one = ("ask", ends(A), ("same",), ("same",))
        self.has("(?a + 0) -> ?a", one)
        self.has("(?a * 2) -> (?a + ?a)", None)
        self.has("(?a * 0) -> 0", None)
        self.has("(?a ; 1) -> 1", None)
        self.has("(?a ; 1) -> (?a ; (0 + 1))", one)
        self.has("(?a + ?b) -> (?b + ?a)", None)
        self.has("(?a + ?b) -> (?b + ?a) where b quiet", one)
        self.has("(?a ; (?b ; ?c)) -> ((?a ; ?b) ; ?c)",
                 ("ask", ends(A), ("ask", ends(B), ("ask", ends(C), ("same",), ("same",)), ("same",)), ("same",)))

    def test_questions_about_nought(self):
        self.has("(if ?a then ?b else ?b) -> ?b where a quiet, b quiet",
                 ("ask", nought(alone(A)), ("same",), ("same",)))
        self.has("(if ?a then ?a else 0) -> ?a where a quiet", ("ask", nought(alone(A)), ("same",), ("same",)))
        self.has("(if ?a then ?a else 1) -> ?a where a quiet", None)
        self.has("(if ?a then ?b else ?b) -> (?a ; ?b)", (
            "ask", ends(A), ("ask", nought(alone(A)), ("ask", ends(B), ("same",), ("same",)),
                             ("ask", ends(B), ("same",), ("same",))), ("same",)))
        self.has("(if (?a - ?b) then 0 else (?a - ?b)) -> 0 where a number, b number", None)
        self.has("(if (?a - ?b) then 1 else 2) -> (if (?b - ?a) then 1 else 2) where a number, b number", None)

    def test_the_left_ahead_of_the_right(self):
        self.has("(if ?a then 1 else 1) -> (if ?b then 1 else 1) where a quiet, b quiet".replace(
            "(if ?a then 1 else 1) ->", "((if ?a then 1 else 1) + (?b - ?b)) ->"),
            ("ask", nought(alone(A)), ("ask", nought(alone(B)), ("same",), ("same",)),
             ("ask", nought(alone(B)), ("same",), ("same",))))
        self.has("(0 * ?a) -> (if ?a then 0 else 0) where a quiet", ("ask", nought(alone(A)), ("same",), ("same",)))

    def test_no_question_is_asked_twice(self):
        for rule in chance_rules(94, 200):
            told = paper(rule)
            if told is not None and depth_of(told) > 1:
                question = told[1]
                self.assertNotIn(question, all_questions(told[2]) + all_questions(told[3]))

    def test_eight_and_nine_questions(self):
        rule = rule_of(EIGHT + " -> (" + EIGHT + " + 0)")
        told = paper(rule)
        self.assertEqual(depth_of(told), 8)
        self.assertEqual(told, expected_paper(rule))
        self.assertTrue(is_paper(rule, told))
        self.assertIsNone(paper(rule_of(NINE + " -> (" + NINE + " + 0)")))
        # Eight of them at the left, and the ninth at the right.
        more = "(" + EIGHT + " + (?z - ?z)) -> (" + EIGHT + " + (if ?z then 0 else 0)) where z quiet"
        self.assertIsNone(paper(rule_of(more)))
        self.assertIsNotNone(paper(rule_of(more.replace("(if ?z then 0 else 0)", "(?z * 0)"))))
        # Of nine gaps that are quiet none is asked for.
        kinds = " where a quiet, d quiet, e quiet, f quiet"
        self.assertIsNotNone(paper(rule_of(NINE + " -> (" + NINE + " + 0)" + kinds)))

    def test_nine_questions_on_one_way_alone(self):
        # On the ways where a gap does not end there are fewer questions; the longest one counts.
        told = NINE.replace("?f", "(if ?d then 7 else 8)")
        self.assertIsNone(paper(rule_of(told + " -> (" + told + " + 0)")))

    def test_great_sums(self):
        kinds = " where a quiet, b quiet, c quiet, d quiet, e quiet, f quiet"
        self.has(FORTY_PRODUCTS + " -> (0 + " + FORTY_PRODUCTS + ")" + kinds, ("same",))
        self.has(FORTY_ONE_PRODUCTS + " -> " + FORTY_ONE_PRODUCTS + kinds, None)
        self.has(MANY_PRODUCTS + " -> " + MANY_PRODUCTS + " where a quiet, b quiet", None)
        self.has(FORTY_FACTORS + " -> (0 + " + FORTY_FACTORS + ") where a quiet", ("same",))
        self.has(FORTY_ONE_FACTORS + " -> " + FORTY_ONE_FACTORS + " where a quiet", None)
        within = " where a quiet, f quiet, g quiet, h quiet"
        self.has(FOUR_WITHIN + " -> (0 + " + FOUR_WITHIN + ")" + within, ("same",))
        self.has(FIVE_WITHIN + " -> " + FIVE_WITHIN + within, None)
        self.has(FIVE_WITHIN + " -> " + FIVE_WITHIN + within + ", k quiet", None)

    def test_great_sums_at_one_side_alone(self):
        kinds = " where a quiet, b quiet"
        self.has("(" + MANY_PRODUCTS + " ; 1) -> 1" + kinds, None)
        self.has("((?a + ?b) ; 1) -> (" + MANY_PRODUCTS + " ; 1)" + kinds, None)
        # With each answer to the question ahead of it the sum does not come up.
        self.has("((?a + ?b) ; (if 0 then " + MANY_PRODUCTS + " else 1)) -> 1" + kinds, ("same",))
        self.has("(if ?b then " + MANY_PRODUCTS + " else 1) -> 1" + kinds, None)
        nought_ways = "((?c * ?b) ; (if ?b then (stop w) else (if ?b then " + MANY_PRODUCTS + " else 1)))"
        self.has(nought_ways + " -> (if ?b then (stop w) else 1) where a quiet, b quiet, c quiet",
                 ("ask", nought(alone(B)), ("same",), ("same",)))

    def test_an_unlike_run_ahead_of_a_great_sum(self):
        self.has("((say 1) ; (?a + ?b)) -> (" + MANY_PRODUCTS + " ; 1) where a quiet, b quiet", None)

    def test_many_rules(self):
        found = {True: 0, False: 0}
        for rule in chance_rules(95, 700):
            told = paper(rule)
            self.assertEqual(told, expected_paper(rule))
            found[told is None] += 1
            if told is not None:
                self.assertIs(is_paper(rule, told), True)
        self.assertGreater(min(found.values()), 100)

    def test_rules_with_a_paper_run_alike_whatever_stands_in_the_gaps(self):
        chance = random.Random(96)
        runs = 0
        for number_of, rule in enumerate(chance_rules(97, 500)):
            if paper(rule) is None:
                continue
            if number_of % 5 == 0:
                self.assertEqual(tried(rule)[0], "tried")
            for turn in range(6):
                filling = chance_filling(chance, rule)
                known = {"x": chance.choice([0, 1, END - 1]), "y": chance.randrange(3)}
                asked = {"k": chance.randrange(2), "x": 4}
                self.assertEqual(
                    run(filled(rule[0], filling), known, asked), run(filled(rule[1], filling), known, asked))
                runs += 1
        self.assertGreater(runs, 500)


class IsPaperTest(unittest.TestCase):
    def told(self, text, shown, expected):
        with self.subTest(text):
            rule = rule_of(text)
            self.assertIs(is_paper(rule, shown), expected)
            self.assertIs(is_expected_paper(rule, shown), expected)

    def test_by_hand(self):
        asked = ("ask", ends(A), ("same",), ("same",))
        self.told("(1 + 2) -> 3", ("same",), True)
        self.told("(1 + 2) -> 4", ("same",), False)
        self.told("(?a + 0) -> ?a", asked, True)
        self.told("(?a + 0) -> ?a", ("same",), False)
        self.told("(?a + 0) -> ?a where a quiet", ("same",), True)
        self.told("(?a + 0) -> ?a where a quiet", asked, True)
        self.told("(?a * 0) -> 0", asked, False)
        self.told("(?a + 0) -> ?a", ("ask", ends(B), ("same",), ("same",)), False)
        self.told("(?a + 0) -> ?a", ("ask", ends(B), asked, asked), True)
        self.told("(?a + 0) -> ?a", ("ask", ends(B), asked, ("same",)), False)
        self.told("(?a + 0) -> ?a", ("ask", ends(B), ("same",), asked), False)
        self.told("(?a + 0) -> ?a", ("ask", nought(alone(A)), asked, asked), True)

    def test_the_first_answer_is_true(self):
        text = "(if ?a then ?b else ?b) -> (if ?a then ?b else 1) where a quiet, b number"
        right = ("ask", nought(alone(A)), ("same",), ("same",))
        self.told(text, right, False)
        self.told("(if ?a then ?a else 5) -> (if ?a then ?a else (5 + ?a)) where a quiet", right, True)
        self.told("(if ?a then 1 else ?a) -> (if ?a then 1 else 0) where a quiet", right, True)
        self.told("(if ?a then ?a else 1) -> (if ?a then 0 else 1) where a quiet", right, False)

    def test_questions_in_another_order(self):
        quiet = "(if ?a then ?b else ?b) -> ?b where a quiet"
        first = ("ask", nought(alone(A)), ("same",), ("same",))
        self.told(quiet, ("ask", ends(B), first, first), True)
        self.told(quiet, ("ask", ends(B), first, ("same",)), False)
        second = ("ask", ends(B), ("same",), ("same",))
        self.told(quiet, ("ask", nought(alone(A)), second, second), True)
        self.told(quiet, ("ask", nought(alone(A)), second, ("same",)), False)
        self.told(quiet, ("ask", nought(alone(A)), ("same",), second), False)

    def test_a_question_that_stands_twice(self):
        question = nought(alone(A))
        within = ("ask", question, ("same",), ("same",))
        text = "(if ?a then ?a else 0) -> ?a where a quiet"
        self.told(text, ("ask", question, within, within), True)
        # Either answer may come farther inwards, whatever was answered farther out.
        wrong = "(if ?a then 1 else ?a) -> (if ?a then 2 else 0) where a quiet"
        self.told(wrong, ("ask", question, ("same",), ("same",)), False)
        self.told(wrong, ("ask", question, within, within), False)
        self.told(wrong, ("ask", question, within, ("same",)), False)
        ended = ("ask", ends(A), ("same",), ("same",))
        self.told("(?a ; 1) -> (?a ; 2)", ("ask", ends(A), ended, ended), False)
        self.told("(?a + 0) -> ?a", ("ask", ends(A), ended, ("same",)), True)
        self.told("(?a + 0) -> ?a", ("ask", ends(A), ("same",), ("ask", ends(B), ended, ("same",))), True)

    def test_the_answer_farther_inwards_goes(self):
        # Right only where the one farther out goes: with True inwards the runs are unlike.
        text = "(if ?a then 1 else 2) -> (if ?a then 1 else 3) where a quiet"
        question = nought(alone(A))
        inner = ("ask", question, ("same",), ("same",))
        for yes in [("same",), inner]:
            for no in [("same",), inner]:
                self.told(text, ("ask", question, yes, no), False)
        rule = rule_of("((if ?a then 1 else 2) + ?a) -> ((if ?a then 1 else 2) + ?a) where a quiet")
        self.assertTrue(is_paper(rule, ("ask", question, inner, inner)))

    def test_great_sums(self):
        kinds = " where a quiet, b quiet"
        self.told(MANY_PRODUCTS + " -> " + MANY_PRODUCTS + kinds, ("same",), False)
        within = FIVE_WITHIN + " -> " + FIVE_WITHIN + " where a quiet, f quiet, g quiet, h quiet"
        asked = ("ask", ends(WITHIN_FIVE), ("same",), ("same",))
        self.told(within, asked, False)
        self.told(within, ("ask", nought(alone(WITHIN_FIVE)), asked, asked), False)
        self.told(within, ("ask", ends(WITHIN_FIVE), ("ask", nought(alone(WITHIN_FIVE)), ("same",), ("same",)),
                           ("same",)), False)

    def test_more_than_eight_questions(self):
        # What bounds the paper that is made does not bound one that is shown.
        rule = rule_of(NINE + " -> (" + NINE + " + 0)")

        def made(facts):
            told = [Words(rule[2], facts).told(side) for side in rule[:2]]
            for one in told:
                if one[0] == "asks":
                    return ("ask", one[1], made(facts + ((one[1], True),)), made(facts + ((one[1], False),)))
            return ("same",)

        self.assertEqual(depth_of(made(())), 9)
        self.assertIs(is_paper(rule, made(())), True)
        self.assertIsNone(paper(rule))
        shown = ("same",)
        for turn in range(12):
            shown = ("ask", ends(unknown("z", number(turn))), shown, shown)
        self.assertIs(is_paper(rule_of("(1 + 2) -> 3"), shown), True)
        self.assertIs(is_paper(rule_of("(1 + 2) -> 4"), shown), False)

    def test_papers_that_lack_a_question(self):
        unlike = 0
        for rule in chance_rules(98, 250):
            told = paper(rule)
            if told is None or depth_of(told) > 4:
                continue
            for shown in pruned(told):
                expected = is_expected_paper(rule, shown)
                self.assertIs(is_paper(rule, shown), expected)
                unlike += not expected
        self.assertGreater(unlike, 100)

    def test_papers_of_other_rules(self):
        rules = chance_rules(99, 120)
        papers = [told for told in [paper(rule) for rule in rules] if told is not None and depth_of(told) < 5]
        for rule in rules:
            for told in papers[:25]:
                self.assertIs(is_paper(rule, told), is_expected_paper(rule, told))


if __name__ == "__main__":
    unittest.main()
