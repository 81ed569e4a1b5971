"""Sums: how many times each product of unknowns comes, put together, taken away and multiplied."""

from recastle.runs import wrapped


def summed(rows):
    many_of = {}
    for product, many in rows:
        many_of[product] = many_of.get(product, 0) + many
    found = [(product, wrapped(many_of[product])) for product in sorted(many_of)]
    return tuple([(product, many) for product, many in found if many != 0])


def plus(one, other):
    return summed(one + other)


def minus(one, other):
    return summed(one + tuple([(product, 0 - many) for product, many in other]))


def times(one, other):
    rows = []
    for mine, my_many in one:
        for its, its_many in other:
            rows.append((tuple(sorted(mine + its)), my_many * its_many))
    return summed(rows)
