"""Steps by rules, and trees turned step behind step."""

from recastle.errors import NoFall, TooGreat
from recastle.fits import fit, filled
from recastle.trees import part_at, placed_parts, put_at
from recastle.worth import check_scale, falls, worth

MOST_WORTH = 200


def step(rule, tree, place, kinds=None):
    filling = fit(rule, part_at(tree, place), kinds)
    if filling is None:
        return None
    return put_at(tree, place, filled(rule[1], filling))


def steps(rules, tree, kinds=None):
    found = []
    for place, part in placed_parts(tree):
        for number, rule in enumerate(rules):
            if fit(rule, part, kinds) is not None:
                found.append((number, place))
    return found


def is_beneath(place, outer):
    return len(place) > len(outer) and place[:len(outer)] == outer


def outermost(found):
    return 0


def innermost(found):
    # Steps beneath a place follow right behind those at it, so one walk goes all the way in.
    chosen = 0
    for number, told in enumerate(found):
        if is_beneath(told[1], found[chosen][1]):
            chosen = number
    return chosen


def check_falling(rules, scale):
    # By itself, for there may be no rule whose fall would look at the scale.
    check_scale(scale)
    for number, rule in enumerate(rules):
        if not falls(rule, scale):
            raise NoFall(number)


def check_worth(tree, scale):
    if worth(tree, scale) > MOST_WORTH:
        raise TooGreat("the tree is worth too much to be turned")


def all_turned(rules, tree, kinds, choose):
    row = []
    found = steps(rules, tree, kinds)
    while found:
        # A list of its own, which the chooser may change.
        taken = found[choose(list(found))]
        tree = step(rules[taken[0]], tree, taken[1], kinds)
        row.append(taken)
        found = steps(rules, tree, kinds)
    return (tree, row)


def turned(rules, tree, scale, way="inner", kinds=None):
    check_falling(rules, scale)
    check_worth(tree, scale)
    if way == "outer":
        return all_turned(rules, tree, kinds, outermost)
    return all_turned(rules, tree, kinds, innermost)


def turned_by(rules, tree, scale, choose):
    check_falling(rules, scale)
    check_worth(tree, scale)
    return all_turned(rules, tree, None, choose)
