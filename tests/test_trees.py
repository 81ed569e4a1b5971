import unittest

from recastle import errors
from recastle.errors import NoPlace, RecastError
from recastle.trees import is_whole, part_at, parts, places, put_at, size, with_parts
from tests.helper import INNER, LEAVES, chance_trees, say_chain, wide_tree

# One of each sign that has parts; its places by hand.
DEEP = ("if", ("let", "x", ("num", 1), ("say", ("name", "x"))), ("ask", "w"),
        ("then", ("stop", "w"), ("gap", "g", (("name", "x"),))))
DEEP_PLACES = [(), (0,), (0, 0), (0, 1), (0, 1, 0), (1,), (2,), (2, 0), (2, 1)]


def walked(tree, place=()):
    found = [place]
    for number, inner in enumerate(parts(tree)):
        found.extend(walked(inner, place + (number,)))
    return found


class WholeNumberTest(unittest.TestCase):
    def test_an_int_is_whole_and_a_truth_is_not(self):
        for value in [0, 1, -1, 10 ** 300]:
            self.assertIs(is_whole(value), True)
        for value in [True, False, None, "1", (1,)]:
            self.assertIs(is_whole(value), False)


class PartsTest(unittest.TestCase):
    def test_leaves_and_gaps_have_no_parts(self):
        for leaf in LEAVES:
            with self.subTest(leaf):
                self.assertEqual(parts(leaf), ())
                self.assertEqual(size(leaf), 1)
                self.assertEqual(places(leaf), [()])
                self.assertEqual(with_parts(leaf, ()), leaf)

    def test_parts_of_each_sign(self):
        for tree, inner in INNER:
            with self.subTest(tree):
                self.assertEqual(parts(tree), inner)
                self.assertIsInstance(parts(tree), tuple)

    def test_with_parts_of_each_sign(self):
        for tree, inner in INNER:
            with self.subTest(tree):
                self.assertEqual(with_parts(tree, inner), tree)
                others = tuple(("num", 70 + number) for number in range(len(inner)))
                changed = with_parts(tree, others)
                self.assertEqual(parts(changed), others)
                self.assertEqual(changed[:len(tree) - len(inner)], tree[:len(tree) - len(inner)])
                self.assertEqual(len(changed), len(tree))

    def test_with_parts_of_a_let_keeps_its_name(self):
        tree = ("let", "x", ("num", 1), ("num", 2))
        self.assertEqual(with_parts(tree, (("num", 3), ("num", 4))), ("let", "x", ("num", 3), ("num", 4)))


class SizeTest(unittest.TestCase):
    def test_size_of_each_sign(self):
        for tree, inner in INNER:
            with self.subTest(tree):
                self.assertEqual(size(tree), 1 + sum(size(part) for part in inner))

    def test_size_by_hand(self):
        self.assertEqual(size(DEEP), 9)
        self.assertEqual(size(("add", ("num", 1), ("num", 1))), 3)

    def test_equal_parts_count_each(self):
        one = ("mul", ("num", 2), ("num", 2))
        self.assertEqual(size(("then", one, one)), 7)

    def test_deep_and_great_trees(self):
        for depth in [13, 14, 50, 199, 230]:
            self.assertEqual(size(say_chain(depth, ("num", 0))), depth + 1)
        self.assertEqual(size(wide_tree([("num", 1)] * 100)), 199)


class PlacesTest(unittest.TestCase):
    def test_order_by_hand(self):
        self.assertEqual(places(DEEP), DEEP_PLACES)

    def test_places_of_each_sign(self):
        for tree, inner in INNER:
            with self.subTest(tree):
                self.assertEqual(places(tree), walked(tree))

    def test_order_in_many_trees(self):
        for tree in chance_trees(1, 200):
            self.assertEqual(places(tree), walked(tree))
            self.assertEqual(len(places(tree)), size(tree))

    def test_deep_tree(self):
        self.assertEqual(places(say_chain(199, ("num", 0))), [(0,) * depth for depth in range(200)])

    def test_great_tree(self):
        tree = wide_tree([("num", number) for number in range(100)])
        self.assertEqual(places(tree), walked(tree))

    def test_the_list_is_the_askers_own(self):
        told = places(DEEP)
        told.clear()
        told.append("spoilt")
        self.assertEqual(places(DEEP), DEEP_PLACES)


class PartAtTest(unittest.TestCase):
    def test_the_empty_place_is_the_whole_tree(self):
        for tree in LEAVES + [tree for tree, inner in INNER]:
            self.assertEqual(part_at(tree, ()), tree)

    def test_each_place_by_hand(self):
        self.assertEqual(part_at(DEEP, (0,)), DEEP[1])
        self.assertEqual(part_at(DEEP, (0, 0)), ("num", 1))
        self.assertEqual(part_at(DEEP, (0, 1)), ("say", ("name", "x")))
        self.assertEqual(part_at(DEEP, (0, 1, 0)), ("name", "x"))
        self.assertEqual(part_at(DEEP, (1,)), ("ask", "w"))
        self.assertEqual(part_at(DEEP, (2, 1)), ("gap", "g", (("name", "x"),)))

    def test_part_of_a_part(self):
        for tree in chance_trees(2, 100):
            for place in places(tree):
                for number, inner in enumerate(parts(part_at(tree, place))):
                    self.assertEqual(part_at(tree, place + (number,)), inner)

    def test_deep_place(self):
        self.assertEqual(part_at(say_chain(230, ("ask", "w")), (0,) * 230), ("ask", "w"))


class PutAtTest(unittest.TestCase):
    NEW = ("sub", ("name", "n"), ("num", 5))

    def test_at_the_empty_place(self):
        for tree in LEAVES + [DEEP]:
            self.assertEqual(put_at(tree, (), self.NEW), self.NEW)

    def test_by_hand(self):
        self.assertEqual(put_at(DEEP, (1,), self.NEW), ("if", DEEP[1], self.NEW, DEEP[3]))
        self.assertEqual(
            put_at(DEEP, (0, 1, 0), self.NEW),
            ("if", ("let", "x", ("num", 1), ("say", self.NEW)), ("ask", "w"), DEEP[3]))
        self.assertEqual(
            put_at(DEEP, (0, 0), self.NEW),
            ("if", ("let", "x", self.NEW, ("say", ("name", "x"))), ("ask", "w"), DEEP[3]))

    def test_each_sign(self):
        for tree, inner in INNER:
            for number in range(len(inner)):
                expected = inner[:number] + (self.NEW,) + inner[number + 1:]
                self.assertEqual(parts(put_at(tree, (number,), self.NEW)), expected)

    def test_put_and_put_back(self):
        for tree in chance_trees(3, 100):
            for place in places(tree):
                changed = put_at(tree, place, self.NEW)
                self.assertEqual(part_at(changed, place), self.NEW)
                self.assertEqual(put_at(changed, place, part_at(tree, place)), tree)

    def test_lets_around_may_bind(self):
        tree = ("let", "n", ("num", 1), ("num", 2))
        self.assertEqual(put_at(tree, (1,), self.NEW), ("let", "n", ("num", 1), self.NEW))

    def test_deep_place(self):
        changed = put_at(say_chain(230, ("ask", "w")), (0,) * 230, ("num", 8))
        self.assertTrue(changed == say_chain(230, ("num", 8)))


class NoPlaceTest(unittest.TestCase):
    def refused(self, tree, place):
        with self.subTest(tree=tree, place=place):
            with self.assertRaises(NoPlace):
                part_at(tree, place)
            with self.assertRaises(NoPlace):
                put_at(tree, place, ("num", 0))

    def test_behind_a_leaf(self):
        for leaf in LEAVES:
            for number in [0, 1, 2, -1, -2]:
                self.refused(leaf, (number,))
                self.refused(("say", leaf), (0, number))
                self.refused(leaf, (number, 0))

    def test_numbers_out_of_the_parts(self):
        for tree, inner in INNER:
            many = len(inner)
            for number in [many, many + 1, many + 7, -1, -many, -many - 1]:
                self.refused(tree, (number,))
                self.refused(tree, (number, 0))
                self.refused(tree, (number, 0, 0))
                self.refused(("then", tree, tree), (1, number))
                self.refused(("then", tree, tree), (1, number, 0))

    def test_a_truth_is_no_number_of_a_part(self):
        for truth in [True, False]:
            self.refused(("add", ("num", 1), ("num", 2)), (truth,))

    def test_class(self):
        self.assertTrue(issubclass(NoPlace, RecastError))
        self.assertTrue(issubclass(NoPlace, ValueError))
        for word, value in vars(errors).items():
            if isinstance(value, type) and value not in (NoPlace, RecastError):
                self.assertFalse(issubclass(NoPlace, value), word)


if __name__ == "__main__":
    unittest.main()
