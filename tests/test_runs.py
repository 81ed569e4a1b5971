import unittest

from recastle.reads import read
from recastle.runs import run
from tests.helper import chance_programs, let, name, say_chain, wide_tree

END = 10 ** 30


class Stopped(Exception):
    pass


def run_by_words(tree, known, asked, deeds):
    sign = tree[0]
    if sign == "num":
        return tree[1]
    if sign == "name":
        return known.get(tree[1], 0)
    if sign == "ask":
        deeds.append(tree)
        return asked.get(tree[1], 0)
    if sign == "stop":
        raise Stopped(tree[1])
    if sign == "let":
        first = run_by_words(tree[2], known, asked, deeds)
        return run_by_words(tree[3], {**known, tree[1]: first}, asked, deeds)
    first = run_by_words(tree[1], known, asked, deeds)
    if sign == "say":
        deeds.append(("say", first))
        return first
    if sign == "if":
        return run_by_words(tree[2] if first != 0 else tree[3], known, asked, deeds)
    second = run_by_words(tree[2], known, asked, deeds)
    return {"add": first + second, "sub": first - second, "mul": first * second, "then": second}[sign] % END


def expected_run(tree, known, asked):
    deeds = []
    try:
        return (deeds, ("is", run_by_words(tree, known, asked, deeds)))
    except Stopped as stopped:
        return (deeds, ("stop", stopped.args[0]))


class RunTest(unittest.TestCase):
    def ends(self, text, number, known=None, asked=None, deeds=()):
        with self.subTest(text):
            self.assertEqual(run(read(text), known, asked), (list(deeds), ("is", number)))

    def test_leaves(self):
        self.ends("0", 0)
        self.ends("7", 7)
        self.ends("9" * 30, END - 1)
        self.ends("x", 5, {"x": 5})
        self.ends("x", END - 1, {"x": END - 1})
        self.ends("(ask w)", 6, None, {"w": 6}, [("ask", "w")])
        self.assertEqual(run(read("(stop w)")), ([], ("stop", "w")))

    def test_names_and_words_that_the_dicts_lack(self):
        self.ends("x", 0)
        self.ends("x", 0, {})
        self.ends("x", 0, {"y": 5})
        self.ends("(ask w)", 0, None, None, [("ask", "w")])
        self.ends("(ask w)", 0, {}, {}, [("ask", "w")])
        self.ends("(ask w)", 0, {"w": 3}, {"v": 5}, [("ask", "w")])
        self.ends("x", 0, None, {"x": 5})
        self.ends("(x + (ask x))", 10, {"x": 4}, {"x": 6}, [("ask", "x")])

    def test_signs(self):
        self.ends("(2 + 3)", 5)
        self.ends("(5 - 3)", 2)
        self.ends("(2 * 3)", 6)
        self.ends("(2 ; 3)", 3)
        self.ends("(if 2 then 3 else 4)", 3)
        self.ends("(if 0 then 3 else 4)", 4)
        self.ends("(if 1 then 0 else 4)", 0)
        self.ends("(let x = 2 in (x * x))", 4)
        self.ends("(say 2)", 2, None, None, [("say", 2)])

    def test_around_the_greatest_number(self):
        great = "9" * 30
        self.ends("(" + great + " + 1)", 0)
        self.ends("(" + great + " + " + great + ")", END - 2)
        self.ends("(" + great + " + 0)", END - 1)
        self.ends("(0 - 1)", END - 1)
        self.ends("(0 - " + great + ")", 1)
        self.ends("(3 - 5)", END - 2)
        self.ends("(" + great + " * " + great + ")", 1)
        self.ends("(" + great + " * 2)", END - 2)
        self.ends("(1" + "0" * 15 + " * 1" + "0" * 15 + ")", 0)
        self.ends("(if (" + great + " + 1) then 1 else 2)", 2)
        self.ends("(say (0 - 1))", END - 1, None, None, [("say", END - 1)])
        self.ends("(x + (ask w))", END - 2, {"x": END - 1}, {"w": END - 1}, [("ask", "w")])

    def test_order_of_deeds(self):
        for sign in "+-*;":
            told = run(read("((say 1) " + sign + " (say 2))"))
            self.assertEqual(told[0], [("say", 1), ("say", 2)])
        self.ends("((ask a) - (say (ask b)))", 3, None, {"a": 5, "b": 2}, [("ask", "a"), ("ask", "b"), ("say", 2)])
        self.ends("(say (say 3))", 3, None, None, [("say", 3), ("say", 3)])
        self.ends("(let x = (say 1) in ((say 2) + x))", 3, None, None, [("say", 1), ("say", 2)])

    def test_one_side_of_an_if_alone(self):
        text = "(if (say (ask w)) then (say 1) else (say 2))"
        self.ends(text, 1, None, {"w": 9}, [("ask", "w"), ("say", 9), ("say", 1)])
        self.ends(text, 2, None, {"w": 0}, [("ask", "w"), ("say", 0), ("say", 2)])
        self.ends("(if 0 then (stop w) else 5)", 5)
        self.ends("(if 1 then 5 else (stop w))", 5)

    def test_a_let_that_is_not_used_is_run(self):
        self.ends("(let x = (say 1) in 2)", 2, None, None, [("say", 1)])
        self.assertEqual(run(read("(let x = (stop w) in (say 2))")), ([], ("stop", "w")))

    def test_lets_within_lets(self):
        self.ends("(let x = 1 in (let x = (x + 1) in (x * 10)))", 20)
        self.ends("(let x = 1 in ((let x = 2 in x) + x))", 3)
        self.ends("((let x = 1 in x) + x)", 6, {"x": 5})
        self.ends("(let x = x in (x + 1))", 6, {"x": 5})
        self.ends("(let x = (let y = 3 in (y + 1)) in (x + y))", 4)
        self.ends("(let x = (let x = 3 in x) in (x + x))", 6)

    def test_a_stop_in_the_midst(self):
        for text, deeds in [
            ("((say 1) + ((stop w) + (say 2)))", [("say", 1)]),
            ("((say 1) ; ((stop w) ; (say 2)))", [("say", 1)]),
            ("(say (stop w))", []),
            ("(if (stop w) then (say 1) else (say 2))", []),
            ("(let x = 1 in ((say x) ; (say (stop w))))", [("say", 1)]),
            ("(((say 1) ; (stop w)) + (stop v))", [("say", 1)]),
            ("((stop w) - (stop v))", []),
            ("(let x = (ask v) in (if x then 1 else (stop w)))", [("ask", "v")]),
        ]:
            with self.subTest(text):
                self.assertEqual(run(read(text)), (deeds, ("stop", "w")))

    def test_many_programs(self):
        stopped = 0
        for tree in chance_programs(71, 1500, words="xyzw") + chance_programs(72, 500, depth=3, words="xy"):
            for known, asked in [({}, {}), ({"x": 3, "y": END - 1}, {"x": 7, "z": 1})]:
                handed_in = (dict(known), dict(asked))
                told = run(tree, known, asked)
                self.assertEqual(told, expected_run(tree, known, asked))
                self.assertEqual((known, asked), handed_in)
                stopped += told[1][0] == "stop"
        self.assertGreater(stopped, 500)

    def test_kinds_of_the_answer(self):
        told = run(read("(say 1)"))
        self.assertIsInstance(told, tuple)
        self.assertIsInstance(told[0], list)
        told[0].clear()
        self.assertEqual(run(read("(say 1)"))[0], [("say", 1)])

    def test_great_programs(self):
        self.assertEqual(run(say_chain(230, ("num", 4))), ([("say", 4)] * 230, ("is", 4)))
        self.assertEqual(run(wide_tree([("ask", "w")] * 100)), ([("ask", "w")] * 100, ("is", 0)))
        tree = name("x")
        for number in range(99):
            tree = let("x", ("add", name("x"), ("num", 1)), tree)
        self.assertEqual(run(tree, {"x": 1}), ([], ("is", 100)))


if __name__ == "__main__":
    unittest.main()
