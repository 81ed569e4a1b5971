import random
import unittest

from recastle.errors import NoText, TooGreat
from recastle.names import KEPT_WORDS
from recastle.reads import read, read_rule
from recastle.shows import shown, shown_rule
from tests.helper import chance_shapes, chance_trees, gap, name, say_chain
from tests.test_shows import RULE_TEXTS, TEXTS

NO_TEXTS = [
    # Nothing, blanks, line ends and tabs.
    "", " ", "\n", "\t", " 1", "1 ", "1\n", "\n1", "\t1", "x ", " x", "1\t", "x y", "1 2", "(1 +\n2)", "(1\t+ 2)",
    "( 1 + 2)", "(1 + 2 )", "(1  + 2)", "(1 +  2)", "(1+2)", "(1 +2)", "(1+ 2)", " (1 + 2)", "(1 + 2) ",
    "(say  1)", "( say 1)", "(say 1 )", "(say1)", "(say(say 1))", "(ask  w)", "(ask w )", "( ask w)", "(stop  w)",
    "(if 1 then 2 else 3 )", "(if  1 then 2 else 3)", "(if 1  then 2 else 3)", "(if 1 then  2 else 3)",
    "(if 1 then 2  else 3)", "(if 1 then 2 else  3)", "(if 1 then2 else 3)", "( if 1 then 2 else 3)",
    "(let x= 1 in 2)", "(let x =1 in 2)", "(let  x = 1 in 2)", "(let x  = 1 in 2)", "(let x =  1 in 2)",
    "(let x = 1  in 2)", "(let x = 1 in  2)", "(let x = 1 in 2 )", "( let x = 1 in 2)", "(let x=1 in 2)",
    # Numbers.
    "00", "01", "007", "-1", "+1", "1.0", "1e3", "1_0", "12a", "a12", "1" + "0" * 30, "9" * 31, "9" * 500,
    "0" * 31, "(say 01)", "0x1",
    # Words.
    "abcdefghi", "X", "xY", "x1", "x_y", "_", "x-y", "(ask X)", "(ask abcdefghi)", "(stop 1)", "(ask 1)", "(stop )",
    "(ask )", "(ask)", "(stop)", "(ask (ask w))", "(ask ?w)", "(ask w w)", "(say)", "(say )", "(let X = 1 in 2)",
    "(let 1 = 1 in 2)", "(let ?g = 1 in 2)", "(let abcdefghi = 1 in 2)", "(let = 1 in 2)", "(let x y = 1 in 2)",
    # Brackets and signs.
    "()", "( )", "(", ")", "(1", "1)", "(1)", "(x)", "((1 + 2))", "(1 + 2", "1 + 2", "(1 + 2))", "((1 + 2)",
    "(1 + 2 + 3)", "(1 2)", "(1 / 2)", "(1 = 2)", "(1 -> 2)", "(1 + )", "( + 1)", "(+ 1 2)", "(1 +)", "(1 ;2)",
    "(1; 2)", "(1 -- 2)", "(1 ** 2)", "[1]", "{x}", "x -> y", "(add 1 2)", "(num 1)", "(?a ? ?b)", "1;2",
    "(if 1 then 2)", "(if 1 else 2)", "(if 1 then 2 else)", "(if 1 then 2 else 3 else 4)", "(if 1 2 3)",
    "(let x = 1 2)", "(let x = 1)", "(let x 1 in 2)", "(let x = 1 in)", "(say 1 2)", "(say 1)(say 1)", "(Say 1)",
    "(saying 1)", "(asks w)", "(iff 1 then 2 else 3)", "(lets x = 1 in 2)", "(let x := 1 in 2)", "(1 & 2)",
    # Gaps.
    "?", "? g", "?G", "?1", "?g1", "??g", "?g?", "?abcdefghi", "?g[", "?g]", "?g[]", "?g[ ]", "?g[x", "?g[x ]",
    "?g[ x]", "?g[x  y]", "?g[x,y]", "?g[x, y]", "?g [x]", "?g[x][y]", "?g[(ask w)]", "?g[(1 + 2)]", "?g[?h[x]]",
    "?g[?h[]]", "?g[?]", "?g[01]", "?g[" + "9" * 31 + "]", "?g[X]", "?g(x)", "?g[abcdefghi]", "?g[x\ty]", "[x]",
    "?g[x] ", "?g[x]y", "(say ?g[x y)", "?g[(x)]", "?g{x}", "g[x]", "?g[?H]", "?g[-1]", "?g[x]]", "?g[[x]]",
]

NO_RULE_TEXTS = [
    "", " -> ", "->", "1", "1 ->", "1 -> ", " -> 1", "-> 1", "1->2", "1 ->2", "1-> 2", "1  -> 2", "1 ->  2",
    " 1 -> 2", "1 -> 2 ", "1 -> 2\n", "1 - > 2", "1 => 2", "1 -> 2 -> 3", "(1 -> 2)", "1 - 2", "1\t-> 2", "1 <- 2",
    "1 -> 2 where", "1 -> 2 where ", "1 -> 2where a quiet", "1 -> 2  where a quiet", "1 -> 2 where  a quiet",
    "1 -> 2 where a", "1 -> 2 where a ", "1 -> 2 where a  quiet", "1 -> 2 where a quiet ", "1 -> 2 where quiet",
    "1 -> 2 where a quiet,", "1 -> 2 where a quiet, ", "1 -> 2 where a quiet,b quiet", "1 -> 2 where a quiet b quiet",
    "1 -> 2 where a quiet,  b quiet", "1 -> 2 where a quiet , b quiet", "1 -> 2 where a loud", "1 -> 2 where a quietly",
    "1 -> 2 where a numbers", "1 -> 2 where a Quiet", "1 -> 2 where ?a quiet", "1 -> 2 where a[x] quiet",
    "1 -> 2 where , a quiet", "1 -> 2 where a quiet where b quiet", "1 -> 2 where a quiet number",
    "1 -> 2 where 1 quiet", "1 -> 2 where A quiet", "1 -> 2 where abcdefghi quiet", "1 -> 2 where a is quiet",
    "1 -> 2 where a, b quiet", "1 -> 2 where a quiet; b quiet", "1 -> 2 Where a quiet", "1 -> 2 where a quiet\n",
    # Out of order, and twice.
    "1 -> 2 where b quiet, a quiet", "1 -> 2 where a quiet, a quiet", "1 -> 2 where a quiet, a number",
    "1 -> 2 where a quiet, b quiet, b number", "1 -> 2 where a quiet, c quiet, b quiet",
    "1 -> 2 where ab quiet, a quiet", "1 -> 2 where b quiet, aa quiet",
]


def texts_spoilt(text, chance, many):
    signs = "()[]?+-*;=>, 0123456789abcx \t\n"
    for number in range(many):
        at = chance.randrange(len(text) + 1)
        way = chance.randrange(3)
        if way == 0:
            yield text[:at] + chance.choice(signs) + text[at:]
        elif way == 1:
            yield text[:at] + text[at + 1:]
        else:
            yield text[:at] + chance.choice(signs) + text[at + 1:]


def say_text(deep):
    return "(say " * deep + "1" + ")" * deep


class ReadTest(unittest.TestCase):
    def test_each_sign(self):
        for tree, text in TEXTS:
            with self.subTest(text):
                self.assertEqual(read(text), tree)

    def test_numbers(self):
        for number in [0, 1, 9, 10, 90, 100, 10 ** 29, 10 ** 30 - 1]:
            self.assertEqual(read(str(number)), ("num", number))
            self.assertIs(read(str(number))[1].__class__, int)

    def test_words(self):
        for word in ["a", "z", "ab", "abcdefgh", "zzzzzzzz", "lets", "inn", "iff", "i", "as", "saying", "asks",
                     "stops", "thens", "elses", "wheres", "quiets", "numbers", "num", "add", "gap", "name"]:
            self.assertEqual(read(word), name(word))
            self.assertEqual(read("(ask " + word + ")"), ("ask", word))
            self.assertEqual(read("(stop " + word + ")"), ("stop", word))
            self.assertEqual(read("(" + word + " + 1)"), ("add", name(word), ("num", 1)))
            self.assertEqual(read("(let " + word + " = 1 in " + word + ")"), ("let", word, ("num", 1), name(word)))
            self.assertEqual(read("?" + word), gap(word))
            self.assertEqual(read("?g[" + word + " ?" + word + "]"), gap("g", name(word), gap(word)))

    def test_kept_words(self):
        self.assertEqual(
            sorted(KEPT_WORDS),
            sorted("let in if then else say ask stop where quiet number".split()))
        for word in KEPT_WORDS:
            for text in ["@", "(ask @)", "(stop @)", "(@ + 1)", "(1 + @)", "(let @ = 1 in 2)", "(let x = @ in 2)",
                         "(say @)", "?@", "?g[@]", "?g[?@]", "(if @ then 1 else 2)"]:
                with self.subTest(text.replace("@", word)), self.assertRaises(NoText):
                    read(text.replace("@", word))
            with self.assertRaises(NoText):
                read_rule("1 -> 2 where " + word + " quiet")

    def test_many_atoms(self):
        self.assertEqual(read("?g[x y z u v]"), gap("g", *[name(word) for word in "xyzuv"]))

    def test_no_texts(self):
        for text in NO_TEXTS:
            with self.subTest(text), self.assertRaises(NoText):
                read(text)

    def test_no_texts_within_others(self):
        for text in NO_TEXTS:
            for around in ["(say @)", "(1 + @)", "(if 1 then @ else 2)", "(let x = 1 in @)"]:
                with self.subTest(around.replace("@", text)), self.assertRaises(NoText):
                    read(around.replace("@", text))

    def test_what_is_written_is_read_as_the_same(self):
        found = 0
        for tree in chance_trees(22, 400) + chance_shapes(23, 400):
            text = shown(tree)
            if len(text) <= 2000:
                found += 1
                self.assertEqual(read(text), tree)
        self.assertGreater(found, 700)

    def test_what_is_read_is_written_as_the_same_text(self):
        chance = random.Random(24)
        refused = 0
        kept = 0
        for tree in chance_trees(25, 200, depth=3):
            for text in texts_spoilt(shown(tree), chance, 20):
                try:
                    again = shown(read(text))
                except NoText:
                    refused += 1
                    continue
                kept += 1
                self.assertEqual(again, text)
        self.assertGreater(refused, 1000)
        self.assertGreater(kept, 200)


class TooGreatTest(unittest.TestCase):
    def refused(self, text):
        for reader in [read, read_rule]:
            with self.assertRaises(TooGreat):
                reader(text)

    def test_two_thousand_signs(self):
        wide = "?g[" + " ".join(["x"] * 998) + "]"
        self.assertEqual(len(wide), 1999)
        self.assertEqual(len(read(wide)[2]), 998)
        full = "?gg[" + " ".join(["x"] * 998) + "]"
        self.assertEqual(len(full), 2000)
        self.assertEqual(read(full), gap("gg", *[name("x")] * 998))
        over = "?ggg[" + " ".join(["x"] * 998) + "]"
        self.assertEqual(len(over), 2001)
        self.refused(over)

    def test_too_many_signs_go_ahead_of_no_text(self):
        for text in [" " * 2001, "9" * 2001, ")" * 2001, "x" * 2001, "\n" * 2001, "1 -> " + "2" * 1996]:
            self.refused(text)
        for text in [" " * 2000, "9" * 2000, ")" * 2000, "x" * 2000]:
            for reader in [read, read_rule]:
                with self.assertRaises(NoText):
                    reader(text)

    def test_sixteen_brackets(self):
        self.assertEqual(read(say_text(16)), say_chain(16, ("num", 1)))
        self.refused(say_text(17))
        deep = "(ask w)"
        for number in range(15):
            deep = "(" + deep + " + 1)"
        self.assertEqual(read(deep)[0], "add")
        self.refused("(" + deep + " + 1)")

    def test_many_brackets_that_are_not_open_at_once(self):
        text = "(say 1)"
        for number in range(10):
            text = "((say 1) + " + text + ")"
        self.assertEqual(text.count("("), 21)
        self.assertEqual(shown(read(text)), text)

    def test_the_count_goes_ahead_of_no_text(self):
        for text in ["(" * 17, "x" + "(" * 17, "((((((((((((((((( 1", "(" * 10 + ")" + "(" * 8, ")" * 5 + "(" * 17,
                     "(" * 16 + ")" * 20 + "(" * 17, "[" + "(" * 17, "1 + 2 " + "(" * 17, "(" * 17 + ")" * 17]:
            self.refused(text)

    def test_the_count_does_not_go_below_nought(self):
        for text in ["(" * 16, ")" * 5 + "(" * 16, "(" * 16 + ")" * 20 + "(" * 16, "(" * 10 + ")" + "(" * 7,
                     ")(" * 17, "()" * 40, ")" * 40]:
            for reader in [read, read_rule]:
                with self.subTest(text), self.assertRaises(NoText):
                    reader(text)

    def test_other_brackets_are_not_counted(self):
        for text in ["[" * 17, "?g" + "[" * 17, "{" * 30]:
            with self.assertRaises(NoText):
                read(text)


class ReadRuleTest(unittest.TestCase):
    def test_each_form(self):
        for rule, text in RULE_TEXTS:
            with self.subTest(text):
                self.assertEqual(read_rule(text), rule)

    def test_no_rule_texts(self):
        for text in NO_RULE_TEXTS:
            with self.subTest(text), self.assertRaises(NoText):
                read_rule(text)

    def test_no_texts_at_either_side(self):
        for text in NO_TEXTS:
            if text != "x -> y":
                for around in ["@ -> 1", "1 -> @", "@ -> @", "1 -> @ where a quiet"]:
                    with self.subTest(around.replace("@", text)), self.assertRaises(NoText):
                        read_rule(around.replace("@", text))

    def test_kinds_in_the_order_of_texts(self):
        self.assertEqual(
            read_rule("1 -> 2 where a quiet, aa number, ab quiet, b number")[2],
            (("a", "quiet"), ("aa", "number"), ("ab", "quiet"), ("b", "number")))

    def test_what_makes_no_rule_is_read(self):
        for text in ["?g -> ?h", "1 -> (say 1)", "x -> y", "(let x = 1 in (let x = 2 in 3)) -> ?g[?h]",
                     "(?a + ?a[1 1]) -> ?b where c number", "(ask w) -> (stop w) where z quiet"]:
            with self.subTest(text):
                self.assertEqual(shown_rule(read_rule(text)), text)

    def test_a_rule_is_no_program_and_a_program_no_rule(self):
        with self.assertRaises(NoText):
            read("(?a + ?b) -> ?a")
        with self.assertRaises(NoText):
            read_rule("(?a + ?b)")

    def test_too_great_as_a_whole(self):
        atoms = "[" + " ".join(["x"] * 496) + "]"
        full = "?g" + atoms + " -> ?hhhhhhh" + atoms
        self.assertEqual(len(full), 2000)
        self.assertEqual(read_rule(full), (read("?g" + atoms), read("?hhhhhhh" + atoms), ()))
        for over in ["?gg" + atoms + " -> ?hhhhhhh" + atoms, "?g" + atoms + " -> ?hhhhhhhh" + atoms, full + " ",
                     "?g" + atoms + " -> ?h" + atoms + " where g number"]:
            with self.assertRaises(TooGreat):
                read_rule(over)

    def test_brackets_of_both_sides(self):
        text = say_text(16) + " -> " + say_text(16)
        self.assertEqual(read_rule(text), (say_chain(16, ("num", 1)), say_chain(16, ("num", 1)), ()))
        for text in [say_text(17) + " -> 1", "1 -> " + say_text(17), "(" + say_text(16) + " -> 1",
                     "(say 1 -> " + say_text(16)]:
            with self.subTest(text), self.assertRaises(TooGreat):
                read_rule(text)

    def test_written_and_read(self):
        shapes = chance_shapes(26, 400)
        kinds = [(), (("a", "quiet"),), (("a", "number"), ("b", "quiet"), ("zz", "number"))]
        for number in range(0, 400, 2):
            rule = (shapes[number], shapes[number + 1], kinds[number % 3])
            self.assertEqual(read_rule(shown_rule(rule)), rule)


if __name__ == "__main__":
    unittest.main()
