import re
import unittest

from recastle.names import KEPT_WORDS, alike, free_names, renamed, unused_word
from recastle.trees import part_at, places
from tests.helper import (
    INNER, LEAVES, both, chance_dicts, chance_trees, gap, let, name, nameless, nameless_free,
    put_nameless, say_chain,
)

ONE = ("num", 1)


def let_names(tree):
    found = [part_at(tree, place) for place in places(tree)]
    return [part[1] for part in found if part[0] == "let"]


def let_chain(depth, words, leaf):
    tree = leaf
    for number in range(depth):
        tree = let(words[number % len(words)], ONE, tree)
    return tree


class FreeNamesTest(unittest.TestCase):
    def test_leaves(self):
        self.assertEqual(free_names(name("x")), ["x"])
        for leaf in [ONE, ("ask", "x"), ("stop", "x"), gap("x"), gap("g", ("num", 3), gap("h"))]:
            self.assertEqual(free_names(leaf), [])

    def test_sorted_and_each_once(self):
        tree = both(both(name("z"), name("a")), both(name("m"), both(name("a"), name("z"))))
        self.assertEqual(free_names(tree), ["a", "m", "z"])

    def test_names_in_each_sign(self):
        for tree, inner in INNER:
            expected = sorted(nameless_free(nameless(tree)))
            self.assertEqual(free_names(tree), expected)
        self.assertEqual(free_names(("if", name("c"), name("b"), name("a"))), ["a", "b", "c"])
        self.assertEqual(free_names(("say", name("b"))), ["b"])

    def test_bound_and_free_at_once(self):
        self.assertEqual(free_names(let("x", ONE, name("x"))), [])
        self.assertEqual(free_names(both(name("x"), let("x", ONE, name("x")))), ["x"])
        self.assertEqual(free_names(both(let("x", ONE, name("x")), name("x"))), ["x"])
        self.assertEqual(free_names(let("x", ONE, both(name("x"), name("y")))), ["y"])

    def test_a_lets_name_in_its_own_first_part_is_free(self):
        self.assertEqual(free_names(let("x", name("x"), name("x"))), ["x"])
        self.assertEqual(free_names(let("x", let("x", name("x"), name("x")), ONE)), ["x"])

    def test_lets_of_the_same_name_within_one_another(self):
        self.assertEqual(free_names(let("x", ONE, let("x", name("x"), name("x")))), [])
        self.assertEqual(free_names(let("x", ONE, both(let("x", ONE, ONE), name("x")))), [])
        self.assertEqual(free_names(let("y", ONE, let("x", name("x"), name("x")))), ["x"])

    def test_names_among_atoms(self):
        leaf = gap("g", name("y"), ("num", 2), name("x"))
        self.assertEqual(free_names(leaf), ["x", "y"])
        self.assertEqual(free_names(let("x", ONE, leaf)), ["y"])
        self.assertEqual(free_names(let("x", leaf, ONE)), ["x", "y"])
        self.assertEqual(free_names(gap("g", gap("h"), name("x"), name("x"))), ["x"])

    def test_many_trees(self):
        for tree in chance_trees(4, 400):
            self.assertEqual(free_names(tree), sorted(nameless_free(nameless(tree))))

    def test_deep_trees(self):
        self.assertEqual(free_names(say_chain(230, name("x"))), ["x"])
        self.assertEqual(free_names(let_chain(99, ["x"], name("x"))), [])
        self.assertEqual(free_names(let_chain(99, ["x", "y"], name("z"))), ["z"])

    def test_the_list_is_the_askers_own(self):
        tree = both(name("x"), name("y"))
        told = free_names(tree)
        told.append("spoilt")
        told[0] = "spoilt"
        self.assertEqual(free_names(tree), ["x", "y"])


class AlikeTest(unittest.TestCase):
    def is_alike(self, one, other):
        self.assertIs(alike(one, other), True)
        self.assertIs(alike(other, one), True)

    def is_unlike(self, one, other):
        self.assertIs(alike(one, other), False)
        self.assertIs(alike(other, one), False)

    def test_a_tree_and_itself(self):
        for tree in LEAVES + [tree for tree, inner in INNER] + chance_trees(5, 200):
            self.is_alike(tree, tree)

    def test_bound_names_alone(self):
        self.is_alike(let("x", ONE, name("x")), let("y", ONE, name("y")))
        self.is_alike(
            let("x", ONE, let("y", name("x"), both(name("x"), name("y")))),
            let("y", ONE, let("x", name("y"), both(name("y"), name("x")))))
        self.is_alike(
            let("x", ONE, let("x", name("x"), name("x"))),
            let("x", ONE, let("y", name("x"), name("y"))))
        self.is_alike(
            let("x", ONE, gap("g", name("x"), name("z"))),
            let("y", ONE, gap("g", name("y"), name("z"))))
        self.is_alike(let("x", ONE, ONE), let("y", ONE, ONE))

    def test_free_names(self):
        self.is_unlike(name("x"), name("y"))
        self.is_unlike(let("x", ONE, name("y")), let("x", ONE, name("z")))
        self.is_unlike(let("x", name("x"), ONE), let("y", name("y"), ONE))
        self.is_unlike(both(name("x"), name("y")), both(name("y"), name("x")))

    def test_free_in_one_and_bound_in_the_other(self):
        self.is_unlike(let("x", ONE, name("x")), let("y", ONE, name("x")))
        self.is_unlike(let("x", ONE, name("y")), let("y", ONE, name("y")))
        self.is_unlike(let("x", ONE, name("y")), let("z", ONE, name("z")))

    def test_bound_by_another_let(self):
        self.is_unlike(
            let("x", ONE, let("y", ONE, name("x"))), let("x", ONE, let("y", ONE, name("y"))))
        self.is_unlike(
            let("x", ONE, let("y", ONE, name("x"))), let("x", ONE, let("x", ONE, name("x"))))
        self.is_unlike(
            let("x", ONE, let("y", ONE, name("y"))), let("x", ONE, let("y", ONE, name("x"))))

    def test_numbers_and_words(self):
        self.is_unlike(("num", 1), ("num", 2))
        self.is_unlike(both(ONE, ("num", 1)), both(ONE, ("num", 10 ** 30 - 1)))
        self.is_unlike(("ask", "w"), ("ask", "v"))
        self.is_unlike(("stop", "w"), ("stop", "v"))
        self.is_unlike(let("w", ONE, ("ask", "w")), let("v", ONE, ("ask", "v")))
        self.is_unlike(gap("g"), gap("h"))
        self.is_unlike(let("g", ONE, gap("g")), let("h", ONE, gap("h")))

    def test_signs(self):
        signs = [tree for tree, inner in INNER] + [("num", 1), name("w"), ("ask", "w"), ("stop", "w"), gap("w")]
        for one in signs:
            for other in signs:
                self.assertIs(alike(one, other), one == other)
                self.assertIs(alike(("say", one), ("say", other)), one == other)

    def test_atoms(self):
        self.is_unlike(gap("g"), gap("g", name("x")))
        self.is_unlike(gap("g", name("x")), gap("g", name("x"), name("x")))
        self.is_unlike(gap("g", name("x")), gap("g", name("y")))
        self.is_unlike(gap("g", name("x"), name("y")), gap("g", name("y"), name("x")))
        self.is_unlike(gap("g", ("num", 1)), gap("g", ("num", 2)))
        self.is_unlike(gap("g", gap("h")), gap("g", gap("k")))
        self.is_unlike(gap("g", gap("x")), gap("g", name("x")))
        self.is_unlike(let("x", ONE, gap("g", name("x"))), let("y", ONE, gap("g", name("x"))))
        self.is_alike(gap("g", name("x"), ("num", 1), gap("h")), gap("g", name("x"), ("num", 1), gap("h")))

    def test_many_trees(self):
        trees = chance_trees(6, 150, depth=2, words="xy")
        for one in trees:
            for other in trees:
                self.assertIs(alike(one, other), nameless(one) == nameless(other))

    def test_deep_trees(self):
        self.is_alike(say_chain(230, ONE), say_chain(230, ONE))
        self.is_unlike(say_chain(230, ONE), say_chain(230, ("num", 2)))
        self.is_unlike(say_chain(230, ONE), say_chain(229, ONE))
        self.is_alike(let_chain(99, ["x"], name("x")), let_chain(99, ["y"], name("y")))
        self.is_unlike(let_chain(99, ["x", "y"], name("x")), let_chain(99, ["x", "y"], name("y")))


class RenamedTest(unittest.TestCase):
    def becomes(self, tree, leaves, expected):
        handed_in = dict(leaves)
        told = renamed(tree, leaves)
        self.assertEqual(nameless(told), nameless(expected))
        self.assertEqual(list(leaves.items()), list(handed_in.items()))

    def test_no_name_told(self):
        for tree in LEAVES + [tree for tree, inner in INNER] + chance_trees(7, 100):
            self.assertEqual(renamed(tree, {}), tree)

    def test_names_that_are_not_there(self):
        for tree in chance_trees(8, 100):
            self.assertEqual(renamed(tree, {"nowhere": name("x")}), tree)

    def test_leaves_of_each_kind(self):
        tree = ("if", name("x"), ("say", name("y")), gap("g", name("z"), name("x")))
        leaves = {"x": ("num", 7), "y": name("new"), "z": gap("h")}
        self.assertEqual(
            renamed(tree, leaves),
            ("if", ("num", 7), ("say", name("new")), gap("g", gap("h"), ("num", 7))))

    def test_all_at_once(self):
        tree = both(name("x"), both(name("y"), name("z")))
        self.becomes(tree, {"x": name("y"), "y": name("x")}, both(name("y"), both(name("x"), name("z"))))
        self.becomes(
            tree, {"x": name("y"), "y": name("z"), "z": name("x")},
            both(name("y"), both(name("z"), name("x"))))
        self.becomes(tree, {"x": name("y"), "y": ONE}, both(name("y"), both(ONE, name("z"))))

    def test_words_and_gaps_are_no_names(self):
        for leaf in [("ask", "x"), ("stop", "x"), gap("x"), gap("g", gap("x"), ("num", 1)), ONE]:
            self.assertEqual(renamed(leaf, {"x": name("y"), "g": ONE}), leaf)

    def test_bound_names_stay(self):
        tree = let("x", name("x"), both(name("x"), name("y")))
        self.assertEqual(
            renamed(tree, {"x": ("num", 7), "y": ("num", 8)}), let("x", ("num", 7), both(name("x"), ("num", 8))))

    def test_a_let_that_catches_nothing_keeps_its_name(self):
        tree = let("y", name("x"), name("y"))
        self.assertEqual(renamed(tree, {"x": name("y")}), let("y", name("y"), name("y")))
        tree = both(name("x"), let("y", ONE, name("y")))
        self.assertEqual(renamed(tree, {"x": name("y")}), both(name("y"), let("y", ONE, name("y"))))
        tree = let("y", ONE, let("x", ONE, name("x")))
        self.assertEqual(renamed(tree, {"x": name("y")}), tree)

    def test_a_let_that_would_catch(self):
        self.becomes(let("y", ONE, name("x")), {"x": name("y")}, let("other", ONE, name("y")))
        self.becomes(
            let("y", name("y"), both(name("x"), name("y"))), {"x": name("y")},
            let("other", name("y"), both(name("y"), name("other"))))
        self.becomes(
            let("y", name("y"), both(name("x"), name("y"))), {"x": name("y"), "y": name("x")},
            let("other", name("x"), both(name("y"), name("other"))))

    def test_several_lets_that_would_catch(self):
        tree = let("y", ONE, let("y", name("y"), both(name("y"), name("x"))))
        self.becomes(
            tree, {"x": name("y")}, let("o", ONE, let("p", name("o"), both(name("p"), name("y")))))
        tree = let("y", ONE, let("z", ONE, both(both(name("x"), name("v")), both(name("y"), name("z")))))
        self.becomes(
            tree, {"x": name("y"), "v": name("z")},
            let("o", ONE, let("p", ONE, both(both(name("y"), name("z")), both(name("o"), name("p"))))))

    def test_other_names_do_not_clash(self):
        # The first free words are a, b, c: each in use as a bound, a free or an incoming name.
        tree = let("y", ONE, let("a", ONE, let("b", ONE, both(
            both(name("x"), name("y")), both(name("a"), both(name("b"), name("c")))))))
        self.becomes(
            tree, {"x": name("y"), "c": name("d")},
            let("o", ONE, let("a", ONE, let("b", ONE, both(
                both(name("y"), name("o")), both(name("a"), both(name("b"), name("d"))))))))

    def test_lets_within_one_that_would_catch_keep_their_names(self):
        tree = let("y", ONE, let("a", ONE, let("b", ONE, both(name("x"), name("y")))))
        told = renamed(tree, {"x": name("y")})
        self.assertEqual(let_names(told)[1:], ["a", "b"])
        self.assertNotIn(let_names(told)[0], ["a", "b", "y"])

    def test_unlike_lets_get_unlike_names(self):
        tree = let("y", ONE, both(name("x"), let("z", ONE, both(name("v"), name("y")))))
        told = renamed(tree, {"x": name("y"), "v": name("z")})
        self.assertEqual(len(set(let_names(told))), 2)

    def test_atoms_that_would_be_caught(self):
        self.becomes(
            let("y", ONE, gap("g", name("x"), name("y"), ("num", 2))), {"x": name("y")},
            let("o", ONE, gap("g", name("y"), name("o"), ("num", 2))))
        self.becomes(
            let("y", ONE, gap("g", name("x"), name("y"))), {"x": gap("y")},
            let("y", ONE, gap("g", gap("y"), name("y"))))

    def test_many_words_in_use(self):
        words = [first + second for first in [""] + list("abc") for second in "abcdefghijklmnopqrstuvwxyz"]
        words = [word for word in words if word not in KEPT_WORDS][:95]
        tree = both(name("x"), name("y"))
        for word in words:
            tree = ("say", both(tree, name(word)))
        tree = let("y", ONE, tree)
        told = renamed(tree, {"x": name("y")})
        self.assertEqual(nameless(told), put_nameless(nameless(tree), {"x": name("y")}))
        self.assertNotIn(told[1], words)

    def test_other_names_are_words(self):
        for number, tree in enumerate(chance_trees(9, 300)):
            told = renamed(tree, {"x": name("y"), "y": name("z"), "z": name("x")})
            for word in let_names(told):
                self.assertRegex(word, "^[a-z]{1,8}$")
                self.assertNotIn(word, KEPT_WORDS)

    def test_many_trees(self):
        for tree, leaves in zip(chance_trees(10, 3000), chance_dicts(11, 3000)):
            handed_in = dict(leaves)
            expected = put_nameless(nameless(tree), leaves)
            self.assertEqual(nameless(renamed(tree, leaves)), expected)
            self.assertEqual(leaves, handed_in)

    def test_deep_trees(self):
        self.assertTrue(renamed(say_chain(230, name("x")), {"x": ONE}) == say_chain(230, ONE))
        tree = let_chain(99, ["x", "y"], both(name("x"), name("z")))
        told = renamed(tree, {"z": name("x")})
        self.assertTrue(nameless(told) == put_nameless(nameless(tree), {"z": name("x")}))


class UnusedWordTest(unittest.TestCase):
    def test_no_kept_word_and_none_in_use(self):
        used = {}
        for number in range(1500):
            word = unused_word(used)
            self.assertTrue(re.fullmatch("[a-z]{1,3}", word), word)
            self.assertNotIn(word, KEPT_WORDS)
            self.assertNotIn(word, used)
            used[word] = True


if __name__ == "__main__":
    unittest.main()
