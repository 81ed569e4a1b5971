import unittest

from recastle.errors import (
    NoFall, NoNumber, NoPaper, NoPlain, NoRule, NoScale, NoText, RecastError, TooGreat,
)
from recastle.reads import read, read_rule
from recastle.rows import same
from recastle.runs import run
from recastle.shop import Shop
from recastle.shows import shown
from recastle.tries import tried
from recastle.turns import turned
from recastle.worth import worth
from tests.helper import NO_SCALES, chance_programs

TEXTS = [
    "(?a + 0) -> ?a",
    "(?a ; ?b) -> ?b where a quiet",
    "(let x = ?a in ?b[x]) -> ?b[?a] where a number",
]
PLAIN = ["(?a + 0) -> ?a", "(0 + ?a) -> ?a", "((?a + ?b) + ?c) -> (?a + (?b + ?c))"]
NEST_SCALE = {"add": (1, 2, 1)}

NO_TEXTS = ["", " ", "x ->", "(?a + 0)", "(?a + 0) ->  ?a", "(?a + 0) -> ?a ", "(?a + 0) -> ?a where", "(x+0) -> x",
            "(?a + 0) -> ?a where b loud", "(?a + 0 -> ?a", "?A -> 1", "(?a + 00) -> ?a", "(?a + ?b) -> 1 where b quiet, a quiet"]
NO_PROGRAMS = ["", " ", "(x)", "x ", " x", "(x + y", "(x+y)", "(x + y))", "X", "01", "(let let = 1 in 2)", "(say x y)",
               "?a", "(?a + 0)", "(say (1 + ?a))", "?a[1]", "(let x = 1 in ?a[x])", "1" + "0" * 30]
GREAT_TEXTS = ["(" * 17 + "x", "x" * 2001, " " * 2001, "(" * 17 + ")" * 17, "()" + "(" * 17]

NO_NUMBERS = [3, 4, -1, -3, 10 ** 30, True, False, None, "0", "", (), (0,), [], [0], {}, {0: 0}]


def shop_of(texts, scale=None):
    shop = Shop(scale)
    for number, text in enumerate(texts):
        if shop.take(text) != number:
            raise AssertionError(text)
    return shop


def wide_text(many):
    """A text of many ones, worth one less than twice as much, with few brackets open at once."""
    texts = ["1"] * many
    while len(texts) > 1:
        pairs = ["(" + one + " ; " + other + ")" for one, other in zip(texts[::2], texts[1::2])]
        texts = pairs + texts[len(pairs) * 2:]
    return texts[0]


WORTH_200 = "(say " + wide_text(100) + ")"
WORTH_201 = wide_text(101)


class ScaleTest(unittest.TestCase):
    def test_no_scale(self):
        for scale in NO_SCALES:
            if scale is not None:
                with self.subTest(scale), self.assertRaises(NoScale) as caught:
                    Shop(scale)
                self.assertIsInstance(caught.exception, RecastError)

    def test_none_is_empty(self):
        for shop in [Shop(), Shop(None), Shop({})]:
            self.assertEqual(shop.texts(), [])
            self.assertEqual(shop.take("(?a + 0) -> ?a"), 0)
            with self.assertRaises(NoFall):
                shop.take(PLAIN[2])

    def test_the_dict_may_be_changed_behind(self):
        scale = dict(NEST_SCALE)
        shop = shop_of(PLAIN, scale)
        self.assertEqual(scale, NEST_SCALE)
        scale.clear()
        self.assertEqual(shop.turn("((x + y) + z)"), "(x + (y + z))")
        scale["add"] = (9, 3, 3)
        self.assertEqual(shop.turn("((x + y) + z)"), "(x + (y + z))")
        self.assertEqual(shop.together(), ["together"])
        scale["num"] = None
        self.assertEqual(shop.take("(?a * 1) -> ?a"), 3)
        self.assertEqual(shop.compare("(x + 0)", "x"), ["same", "(x + 0)", "x"])

    def test_shops_are_apart(self):
        one = Shop()
        other = Shop()
        one.take(TEXTS[0])
        self.assertEqual((one.texts(), other.texts()), ([TEXTS[0]], []))


class TakeTest(unittest.TestCase):
    def refused(self, shop, error, text):
        before = shop.texts()
        with self.subTest(text), self.assertRaises(error) as caught:
            shop.take(text)
        self.assertIs(caught.exception.__class__, error)
        self.assertIsInstance(caught.exception, RecastError)
        self.assertEqual(shop.texts(), before)
        self.assertEqual(shop.turn("((y + 0) + 0)"), "y" if "(?a + 0) -> ?a" in before else "((y + 0) + 0)")
        return caught.exception

    def test_numbers(self):
        shop = Shop()
        for number, text in enumerate(TEXTS):
            self.assertEqual(shop.take(text), number)
            self.assertEqual(shop.texts(), TEXTS[:number + 1])
        self.assertEqual(shop.take(TEXTS[0]), 3)
        self.assertEqual(shop.texts(), TEXTS + TEXTS[:1])

    def test_no_text(self):
        for shop in [Shop(), shop_of(TEXTS)]:
            for text in NO_TEXTS:
                self.refused(shop, NoText, text)

    def test_too_great(self):
        for shop in [Shop(), shop_of(TEXTS)]:
            for text in GREAT_TEXTS:
                self.refused(shop, TooGreat, text)
            self.refused(shop, TooGreat, "(?a + 0) -> ?a" + " " * 2000)

    def test_no_rule(self):
        shop = shop_of(TEXTS)
        for text, why in [
            ("1 -> 1", "leaf"), ("(let x = 1 in (let x = 2 in 3)) -> 1", "twice"), ("(x + 0) -> 1", "free"),
            ("(1 + ?a[1]) -> 1", "told"), ("(1 + ?a) -> ?b", "gap"), ("(1 + ?a) -> 1 where b quiet", "kind"),
            ("(?a + 0) -> (say ?a)", "loud"),
        ]:
            self.assertEqual(self.refused(shop, NoRule, text).why, why)

    def test_no_paper(self):
        shop = shop_of(TEXTS)
        for text in ["(?a * 0) -> 0", "(1 + 2) -> 4", "(?a + ?b) -> ?a", "(say (say ?a)) -> (say ?a)",
                     "(if ?a then 1 else 2) -> (if (0 - ?a) then 1 else 2) where a quiet"]:
            self.assertEqual(self.refused(shop, NoPaper, text).tried, tried(read_rule(text)))
        self.assertEqual(self.refused(shop, NoPaper, "(?a * 0) -> 0").tried, ("parted", {"a": ((), ("ask", "q"))}))
        # No paper, and no filling that parts the sides either.
        told = self.refused(shop, NoPaper, "(if ?a then 1 else 2) -> (if (0 - ?a) then 1 else 2) where a quiet").tried
        self.assertEqual(told, ("tried", 4))

    def test_no_fall(self):
        swapped = "(?a + ?b) -> (?b + ?a) where a quiet, b quiet"
        self.assertEqual(self.refused(Shop(), NoFall, swapped).number, 0)
        self.assertEqual(self.refused(shop_of(TEXTS), NoFall, swapped).number, 3)
        self.assertEqual(self.refused(shop_of(TEXTS[:1]), NoFall, PLAIN[2]).number, 1)
        self.assertEqual(shop_of(TEXTS[:1], NEST_SCALE).take(PLAIN[2]), 1)
        shop = shop_of(TEXTS)
        shop.drop(0)
        self.assertEqual(self.refused(shop, NoFall, swapped).number, 2)

    def test_two_that_are_due_at_once(self):
        shop = shop_of(TEXTS)
        self.refused(shop, TooGreat, "(" * 17 + "x+")
        self.refused(shop, TooGreat, "1 -> " + "(" * 17 + "1" + ")" * 17)
        self.refused(shop, NoText, "1 -> (1+1)")
        self.refused(shop, NoRule, "(1 + 2) -> (say (say (say 1)))")
        self.refused(shop, NoPaper, "(?a + ?b) -> (?b + ?a)")
        self.assertEqual(self.refused(shop, NoRule, "1 -> (1 + 2)").why, "leaf")

    def test_the_told_filling_is_the_askers_own(self):
        shop = Shop()
        first = self.refused(shop, NoPaper, "(?a * 0) -> 0").tried
        first[1].clear()
        self.assertEqual(self.refused(shop, NoPaper, "(?a * 0) -> 0").tried, ("parted", {"a": ((), ("ask", "q"))}))


class DropTest(unittest.TestCase):
    def test_those_behind_move_up(self):
        for number in range(3):
            shop = shop_of(TEXTS)
            self.assertIsNone(shop.drop(number))
            self.assertEqual(shop.texts(), TEXTS[:number] + TEXTS[number + 1:])
        shop = shop_of(TEXTS)
        shop.drop(1)
        shop.drop(1)
        self.assertEqual(shop.texts(), TEXTS[:1])
        shop.drop(0)
        self.assertEqual(shop.texts(), [])
        self.assertEqual(shop.take(TEXTS[2]), 0)

    def test_a_dropped_rule_turns_nothing(self):
        shop = shop_of(TEXTS)
        self.assertEqual(shop.turn("((x + 0) ; (y + 0))"), "y")
        shop.drop(0)
        self.assertEqual(shop.turn("((x + 0) ; (y + 0))"), "(y + 0)")
        self.assertEqual(shop.take("(?a * 1) -> ?a"), 2)

    def test_no_number(self):
        for number in NO_NUMBERS:
            shop = shop_of(TEXTS)
            with self.subTest(number), self.assertRaises(NoNumber) as caught:
                shop.drop(number)
            self.assertIsInstance(caught.exception, RecastError)
            self.assertEqual(shop.texts(), TEXTS)
        with self.assertRaises(NoNumber):
            Shop().drop(0)
        with self.assertRaises(NoNumber):
            Shop().drop(-1)


class TextsTest(unittest.TestCase):
    def test_as_they_were_taken(self):
        shop = shop_of(TEXTS)
        self.assertEqual(shop.texts(), TEXTS)
        self.assertEqual(Shop().texts(), [])

    def test_the_list_is_the_askers_own(self):
        shop = shop_of(TEXTS)
        told = shop.texts()
        told.clear()
        self.assertEqual(shop.texts(), TEXTS)
        told = shop.texts()
        shop.drop(0)
        self.assertEqual(told, TEXTS)


class TurnTest(unittest.TestCase):
    def test_turned(self):
        shop = shop_of(TEXTS)
        for text, expected in [
            ("x", "x"), ("(x + 0)", "x"), ("((x + 0) ; (say (y + 0)))", "(say y)"), ("((say 1) ; x)", "((say 1) ; x)"),
            ("(let y = 3 in (y * y))", "(3 * 3)"), ("(let x = (1 ; 4) in (x - y))", "(4 - y)"),
        ]:
            self.assertEqual(shop.turn(text), expected)
            self.assertEqual(shop.turn(text, "inner"), expected)
            self.assertEqual(shop.turn(text, "outer"), expected)
        self.assertEqual(Shop().turn("(x + 0)"), "(x + 0)")
        self.assertEqual(shop.texts(), TEXTS)

    def test_the_way(self):
        # The shop's rules are all right, yet two ways may end unlike where the meets don't come together.
        shop = shop_of(["((?a - ?a) + ?b) -> ?b where a quiet", "(0 - 0) -> 0"])
        self.assertEqual(shop.turn("((0 - 0) + x)", "inner"), "(0 + x)")
        self.assertEqual(shop.turn("((0 - 0) + x)", "outer"), "x")
        self.assertEqual(shop.turn("((0 - 0) + x)"), "(0 + x)")

    def test_by_the_scale(self):
        shop = shop_of(PLAIN, NEST_SCALE)
        self.assertEqual(shop.turn("((((x + 0) + y) + 0) + z)"), "(x + (y + z))")

    def test_refused(self):
        shop = shop_of(TEXTS)
        for text in NO_PROGRAMS:
            with self.subTest(text), self.assertRaises(NoText):
                shop.turn(text)
        for text in GREAT_TEXTS + ["?" + "(" * 17]:
            with self.subTest(text), self.assertRaises(TooGreat):
                shop.turn(text)
        self.assertEqual(shop.texts(), TEXTS)

    def test_worth(self):
        self.assertEqual((worth(read(WORTH_200), {}), worth(read(WORTH_201), {})), (200, 201))
        for shop in [Shop(), shop_of(["(?a + 0) -> ?a"])]:
            self.assertEqual(shop.turn(WORTH_200), WORTH_200)
            for way in ["inner", "outer"]:
                with self.assertRaises(TooGreat):
                    shop.turn(WORTH_201, way)
        with self.assertRaises(TooGreat):
            Shop({"say": (2, 1)}).turn(WORTH_200)

    def test_programs_run_as_before(self):
        shop = shop_of(TEXTS)
        for tree in chance_programs(161, 120, depth=3):
            text = shown(tree)
            for way in ["inner", "outer"]:
                told = shop.turn(text, way)
                self.assertEqual(told, shown(turned([read_rule(text) for text in TEXTS], tree, {}, way)[0]))
                for known, asked in [({}, {}), ({"x": 3, "y": 1}, {"x": 2})]:
                    self.assertEqual(run(read(told), known, asked), run(tree, known, asked))


class CompareTest(unittest.TestCase):
    def test_same(self):
        shop = shop_of(TEXTS)
        for one, other, expected in [
            ("x", "x", ["x"]),
            ("(x + 0)", "x", ["(x + 0)", "x"]),
            ("x", "(x + 0)", ["x", "(x + 0)"]),
            ("((x + 0) ; (y + 0))", "(1 ; y)", ["((x + 0) ; (y + 0))", "(x ; (y + 0))", "(x ; y)", "y", "(1 ; y)"]),
        ]:
            told = shop.compare(one, other)
            self.assertEqual(told, ["same"] + expected)
            self.assertIsInstance(told, list)
        self.assertEqual(Shop().compare("(x + 1)", "(x + 1)"), ["same", "(x + 1)"])

    def test_but_for_bound_names(self):
        shop = shop_of(TEXTS)
        self.assertEqual(shop.compare("(let x = (ask w) in x)", "(let y = (ask w) in y)"),
                         ["same", "(let x = (ask w) in x)"])
        self.assertEqual(shop.compare("(let x = (ask w) in x)", "(let y = (ask w) in x)"),
                         ["unlike", "(let x = (ask w) in x)", "(let y = (ask w) in x)"])

    def test_unlike(self):
        shop = shop_of(TEXTS)
        self.assertEqual(shop.compare("(x + 0)", "(1 ; y)"), ["unlike", "x", "y"])
        self.assertEqual(Shop().compare("(x + 0)", "x"), ["unlike", "(x + 0)", "x"])

    def test_by_chance(self):
        shop = shop_of(TEXTS)
        found = [read_rule(text) for text in TEXTS]
        trees = chance_programs(162, 120, depth=2, words="xy")
        for one, other in zip(trees, trees[1:] + trees[:1]):
            for second in [other, ("then", ("num", 4), one)]:
                told = shop.compare(shown(one), shown(second))
                expected = same(found, one, second, {})
                if expected[0] == "same":
                    self.assertEqual(told, ["same", shown(one)] + [shown(row[3]) for row in expected[1]])
                else:
                    self.assertEqual(told, ["unlike", shown(expected[1]), shown(expected[2])])

    def test_refused(self):
        shop = shop_of(TEXTS)
        for texts, error in [(NO_PROGRAMS, NoText), (GREAT_TEXTS, TooGreat)]:
            for text in texts:
                for one, other in [(text, "x"), ("x", text), (text, text), (text, WORTH_201), (WORTH_201, text)]:
                    with self.subTest(one=one, other=other), self.assertRaises(error) as caught:
                        shop.compare(one, other)
                    self.assertIs(caught.exception.__class__, error)

    def test_two_that_are_due_at_once(self):
        shop = shop_of(TEXTS)
        for one, other, error in [
            ("(x", "(" * 17, NoText), ("(" * 17, "(x", TooGreat), ("?a", "(" * 17, NoText), ("(" * 17, "?a", TooGreat),
            (WORTH_201, "?a", NoText), (WORTH_201, "(x", NoText), ("x", "?a", NoText),
        ]:
            with self.subTest(one=one, other=other), self.assertRaises(error) as caught:
                shop.compare(one, other)
            self.assertIs(caught.exception.__class__, error)

    def test_worth(self):
        shop = shop_of(["(?a + 0) -> ?a"])
        self.assertEqual(shop.compare(WORTH_200, WORTH_200), ["same", WORTH_200])
        for one, other in [(WORTH_201, "x"), ("x", WORTH_201), (WORTH_201, WORTH_201)]:
            with self.assertRaises(TooGreat):
                shop.compare(one, other)


class TogetherTest(unittest.TestCase):
    def test_together(self):
        self.assertEqual(Shop().together(), ["together"])
        self.assertEqual(shop_of(PLAIN[:2]).together(), ["together"])
        self.assertEqual(shop_of(PLAIN, NEST_SCALE).together(), ["together"])

    def test_parted(self):
        shop = shop_of(["((?a - ?a) + ?b) -> ?b where a quiet", "(0 - 0) -> 0"])
        self.assertEqual(shop.together(), ["parted", "((0 - 0) + (ask a))", "(ask a)", "(0 + (ask a))"])
        shop.take("(0 + ?a) -> ?a")
        self.assertEqual(shop.together(), ["together"])
        shop.drop(2)
        self.assertEqual(shop.together()[0], "parted")
        # The orders of turning do end so.
        told = shop.together()
        self.assertEqual([shop.turn(told[1], "outer"), shop.turn(told[1], "inner")], told[2:])

    def test_leaves_of_each_kind(self):
        shop = shop_of(["((?a ; ?b) + (?c * 0)) -> (?a ; (?b + 0)) where b quiet, c number",
                        "((?a ; ?b) + ?c) -> (?a ; (?b + ?c))"], {"add": (1, 2, 1)})
        told = shop.together()
        self.assertEqual(told[0], "parted")
        program = read(told[1])
        self.assertEqual([program[1][1][0], program[1][2][0], program[2][1][0]], ["ask", "name", "num"])
        self.assertNotEqual(program[2][1], ("num", 0))

    def test_refused(self):
        shop = shop_of(TEXTS)
        with self.assertRaises(NoPlain) as caught:
            shop.together()
        self.assertEqual(caught.exception.number, 2)
        shop.drop(0)
        with self.assertRaises(NoPlain) as caught:
            shop.together()
        self.assertEqual(caught.exception.number, 1)
        shop.drop(1)
        self.assertEqual(shop.together(), ["together"])

    def test_worth(self):
        great = "(say (say ((((1 * 1) * 1) * 1) * 1)))"
        for text in [great, "(say " + great + ")"]:
            shop = Shop({"mul": (9, 2, 3)})
            shop.take("(" + text + " ; (?a + 0)) -> (" + text + " ; ?a)")
            shop.take("(?a + 0) -> ?a")
            if text == great:
                self.assertEqual(shop.together(), ["together"])
            else:
                with self.assertRaises(TooGreat):
                    shop.together()


if __name__ == "__main__":
    unittest.main()
