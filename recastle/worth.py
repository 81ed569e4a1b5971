"""Scales, the worth of trees by them, and the rules that fall."""

from recastle.errors import NoScale
from recastle.trees import is_whole, parts

MANY_PARTS = {"say": 1, "add": 2, "sub": 2, "mul": 2, "then": 2, "if": 3, "let": 2}
ONES = (1, 1, 1, 1)
MOST_OWN = 9
MOST_TIMES = 3


def is_between(value, most):
    return is_whole(value) and 1 <= value <= most


def is_scale_row(row, many):
    if not isinstance(row, tuple) or len(row) != many + 1:
        return False
    return is_between(row[0], MOST_OWN) and all([is_between(times, MOST_TIMES) for times in row[1:]])


def check_scale(scale):
    if not isinstance(scale, dict):
        raise NoScale("a scale is a dict")
    for sign in scale:
        if sign not in MANY_PARTS:
            raise NoScale(f"{sign!r} is no sign of a scale")
        if not is_scale_row(scale[sign], MANY_PARTS[sign]):
            raise NoScale(f"what stands by {sign} is no row of a scale")


def weighed_parts(tree, scale):
    # Beside each part how many times its own worth comes into that of the whole tree.
    found = []
    level = [(tree, 1)]
    while level:
        found.extend(level)
        deeper = []
        for part, weight in level:
            row = scale.get(part[0], ONES)
            deeper.extend([(inner, weight * times) for inner, times in zip(parts(part), row[1:])])
        level = deeper
    return found


def worth(tree, scale):
    check_scale(scale)
    # No scale tells of leaves, so that they have the one of ONES.
    return sum([weight * scale.get(part[0], ONES)[0] for part, weight in weighed_parts(tree, scale)])


def gap_weights(shape, scale):
    weights = {}
    for part, weight in weighed_parts(shape, scale):
        if part[0] == "gap":
            weights[part[1]] = weights.get(part[1], 0) + weight
    return weights


def falls(rule, scale):
    # Gaps worth 1 each are the least that left can be ahead by, unless one weighs more at the right;
    # then that one, worth enough, puts right ahead.
    if worth(rule[0], scale) <= worth(rule[1], scale):
        return False
    kinds = dict(rule[2])
    left = gap_weights(rule[0], scale)
    right = gap_weights(rule[1], scale)
    return all([left.get(gap, 0) >= right[gap] for gap in right if kinds.get(gap) != "number"])
