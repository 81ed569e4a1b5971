import random
import unittest

from recastle.sums import minus, plus, times

END = 10 ** 30
NOUGHT = ()


def number(many):
    return (((), many),) if many else ()


def unknown(word, *sums):
    return (word, tuple(sums))


def alone(told):
    return (((told,), 1),)


A = unknown("a")
B = unknown("b")
ASK = unknown("ask w")
OF_A = unknown("g", alone(A))
OF_TWO = unknown("g", number(2))


def summed(*rows):
    """A sum of rows (times, unknowns), which are in order."""
    return tuple((tuple(told), many) for many, told in rows)


def is_sum(told):
    """Whether it is a sum as it is to be told: in order, each product once, none of them 0 times."""
    products = [product for product, many in told]
    return (
        isinstance(told, tuple) and products == sorted(products) and len(set(products)) == len(products)
        and all(1 <= many < END and many.__class__ is int for product, many in told)
        and all(isinstance(product, tuple) and list(product) == sorted(product) for product in products)
    )


def reckoned(told, numbers):
    """The number that a sum comes to where numbers tell what each unknown is."""
    whole = 0
    for product, many in told:
        for one in product:
            many *= numbers[one]
        whole += many
    return whole % END


def chance_sum(chance, unknowns):
    told = {}
    for row in range(chance.randrange(5)):
        product = tuple(sorted(chance.choice(unknowns) for factor in range(chance.randrange(4))))
        told[product] = chance.choice([1, 2, END - 1, END - 2, END // 2, 5 * 10 ** 14, chance.randrange(1, END)])
    return tuple((product, told[product]) for product in sorted(told))


class PlusTest(unittest.TestCase):
    def test_numbers(self):
        self.assertEqual(plus(number(2), number(3)), number(5))
        self.assertEqual(plus(NOUGHT, NOUGHT), NOUGHT)
        self.assertEqual(plus(NOUGHT, number(3)), number(3))
        self.assertEqual(plus(number(END - 1), number(1)), NOUGHT)
        self.assertEqual(plus(number(END - 1), number(2)), number(1))
        self.assertEqual(plus(number(END - 1), number(END - 1)), number(END - 2))
        self.assertEqual(plus(number(END - 2), number(1)), number(END - 1))

    def test_unknowns(self):
        self.assertEqual(plus(alone(A), alone(A)), summed((2, [A])))
        self.assertEqual(plus(alone(A), alone(B)), summed((1, [A]), (1, [B])))
        self.assertEqual(plus(alone(B), alone(A)), summed((1, [A]), (1, [B])))
        self.assertEqual(plus(alone(A), number(3)), summed((3, []), (1, [A])))
        self.assertEqual(plus(summed((END - 1, [A])), alone(A)), NOUGHT)
        self.assertEqual(
            plus(summed((1, []), (END - 2, [A]), (4, [A, B])), summed((2, [A]), (1, [A, B]), (1, [B]))),
            summed((1, []), (5, [A, B]), (1, [B])))

    def test_order_of_products(self):
        rows = [[], [A], [A, A], [A, B], [ASK], [B], [OF_TWO], [OF_A]]
        told = NOUGHT
        for row in reversed(rows):
            told = plus(told, summed((1, row)))
        self.assertEqual(told, summed(*[(1, row) for row in rows]))


class MinusTest(unittest.TestCase):
    def test_numbers(self):
        self.assertEqual(minus(number(5), number(3)), number(2))
        self.assertEqual(minus(number(3), number(3)), NOUGHT)
        self.assertEqual(minus(number(3), number(5)), number(END - 2))
        self.assertEqual(minus(NOUGHT, number(1)), number(END - 1))
        self.assertEqual(minus(NOUGHT, number(END - 1)), number(1))
        self.assertEqual(minus(number(1), NOUGHT), number(1))
        self.assertEqual(minus(NOUGHT, NOUGHT), NOUGHT)

    def test_unknowns(self):
        self.assertEqual(minus(alone(A), alone(A)), NOUGHT)
        self.assertEqual(minus(NOUGHT, alone(A)), summed((END - 1, [A])))
        self.assertEqual(minus(alone(A), alone(B)), summed((1, [A]), (END - 1, [B])))
        self.assertEqual(minus(alone(B), alone(A)), summed((END - 1, [A]), (1, [B])))
        self.assertEqual(minus(summed((3, [A]), (2, [B])), summed((3, [A]), (5, [B]))), summed((END - 3, [B])))


class TimesTest(unittest.TestCase):
    def test_numbers(self):
        self.assertEqual(times(number(2), number(3)), number(6))
        self.assertEqual(times(number(2), NOUGHT), NOUGHT)
        self.assertEqual(times(NOUGHT, number(2)), NOUGHT)
        self.assertEqual(times(number(1), number(7)), number(7))
        self.assertEqual(times(number(END - 1), number(END - 1)), number(1))
        self.assertEqual(times(number(10 ** 15), number(10 ** 15)), NOUGHT)
        self.assertEqual(times(number(10 ** 15), number(10 ** 15 + 1)), number(10 ** 15))

    def test_unknowns(self):
        self.assertEqual(times(alone(A), alone(B)), summed((1, [A, B])))
        self.assertEqual(times(alone(B), alone(A)), summed((1, [A, B])))
        self.assertEqual(times(alone(A), alone(A)), summed((1, [A, A])))
        self.assertEqual(times(alone(A), NOUGHT), NOUGHT)
        self.assertEqual(times(alone(A), number(4)), summed((4, [A])))
        self.assertEqual(times(summed((1, [A, B])), summed((2, [A, ASK]))), summed((2, [A, A, ASK, B])))

    def test_products_that_come_out_nought_times(self):
        one = plus(alone(A), alone(B))
        other = minus(alone(A), alone(B))
        self.assertEqual(times(one, other), summed((1, [A, A]), (END - 1, [B, B])))
        self.assertEqual(times(summed((10 ** 20, [A])), summed((10 ** 10, [B]))), NOUGHT)
        self.assertEqual(times(summed((10 ** 20, [A]), (1, [B])), number(10 ** 10)), summed((10 ** 10, [B])))

    def test_products_that_come_twice(self):
        one = plus(alone(A), alone(B))
        self.assertEqual(times(one, one), summed((1, [A, A]), (2, [A, B]), (1, [B, B])))
        one = plus(alone(A), number(1))
        self.assertEqual(times(one, one), summed((1, []), (2, [A]), (1, [A, A])))

    def test_unknowns_with_sums_are_their_own(self):
        self.assertEqual(plus(alone(OF_A), alone(OF_TWO)), summed((1, [OF_TWO]), (1, [OF_A])))
        self.assertEqual(times(alone(OF_A), alone(OF_TWO)), summed((1, [OF_TWO, OF_A])))
        self.assertEqual(minus(alone(OF_A), alone(unknown("g", alone(A)))), NOUGHT)


class ManySumsTest(unittest.TestCase):
    def test_sums_reckon_like_numbers(self):
        chance = random.Random(81)
        unknowns = [A, B, ASK, OF_A, OF_TWO, unknown("h", alone(A), NOUGHT)]
        for turn in range(1500):
            one = chance_sum(chance, unknowns)
            other = chance.choice([chance_sum(chance, unknowns), one])
            numbers = {each: chance.randrange(END) for each in unknowns}
            mine = reckoned(one, numbers)
            its = reckoned(other, numbers)
            for told, expected in [
                (plus(one, other), mine + its), (minus(one, other), mine - its), (times(one, other), mine * its),
            ]:
                self.assertTrue(is_sum(told), told)
                self.assertEqual(reckoned(told, numbers), expected % END)

    def test_laws(self):
        chance = random.Random(82)
        for turn in range(500):
            one, other, third = [chance_sum(chance, [A, B, OF_A]) for each in range(3)]
            self.assertEqual(plus(one, other), plus(other, one))
            self.assertEqual(times(one, other), times(other, one))
            self.assertEqual(plus(minus(one, other), other), one)
            self.assertEqual(minus(one, one), NOUGHT)
            self.assertEqual(times(one, plus(other, third)), plus(times(one, other), times(one, third)))
            self.assertEqual(times(times(one, other), third), times(one, times(other, third)))


if __name__ == "__main__":
    unittest.main()
