"""Meets: where two plain rules turn the same program in two ways, and whether these come together."""

from recastle.errors import NoPlain
from recastle.fits import filled
from recastle.laid import is_plain, narrowed, owned, owned_kinds, trees_of_both, with_gaps_put, with_words
from recastle.names import alike, unused_word
from recastle.rules import gaps_of
from recastle.trees import all_parts, part_at, placed_parts
from recastle.turns import all_turned, check_falling, check_worth, innermost, step


def check_plain(rules):
    for number, rule in enumerate(rules):
        if not is_plain(rule):
            raise NoPlain(number)


def may_meet(rules, i, j, place):
    # A left is no gap, so that it fits nothing that begins with another sign.
    if place == () and i >= j:
        return False
    return part_at(rules[i][0], place)[0] == rules[j][0][0]


def meet_places(rules):
    found = []
    for i, outer in enumerate(rules):
        for j in range(len(rules)):
            found.extend([(i, j, place) for place, part in placed_parts(outer[0]) if may_meet(rules, i, j, place)])
    return found


def shape_of_both(outer, inner, place):
    """The shape that both rules fit, and the kinds of its gaps, or None."""
    whole = owned(outer[0], 0)
    trees = trees_of_both(part_at(whole, place), owned(inner[0], 1))
    if trees is None:
        return None
    kinds = narrowed(owned_kinds(outer[2], 0) + owned_kinds(inner[2], 1), trees)
    if kinds is None:
        return None
    return with_words(with_gaps_put(whole, trees), kinds)


def meet_at(rules, i, j, place):
    laid = shape_of_both(rules[i], rules[j], place)
    if laid is None:
        return None
    shape = laid[0]
    kinds = laid[1]
    one = step(rules[i], shape, (), kinds)
    other = step(rules[j], shape, place, kinds)
    return (i, j, place, shape, kinds, one, other)


def meets(rules):
    check_plain(rules)
    found = [meet_at(rules, i, j, place) for i, j, place in meet_places(rules)]
    return [meet for meet in found if meet is not None]


def end_of(rules, tree, scale, kinds):
    check_worth(tree, scale)
    return all_turned(rules, tree, kinds, innermost)


def first_parted(rules, scale):
    """The first meet that doesn't come together, with what one and other are turned into, and the steps; or None."""
    check_plain(rules)
    check_falling(rules, scale)
    # Not by all meets at once: none behind the first that doesn't come together is to be looked at.
    for i, j, place in meet_places(rules):
        meet = meet_at(rules, i, j, place)
        if meet is not None:
            one = end_of(rules, meet[5], scale, meet[4])
            other = end_of(rules, meet[6], scale, meet[4])
            if not alike(one[0], other[0]):
                return (meet, one, other)
    return None


def told_in(rules, signs):
    found = {}
    for rule in rules:
        for part in all_parts(rule[0]) + all_parts(rule[1]):
            if part[0] in signs:
                found[part[1]] = True
    return found


def unused_number(used):
    number = 0
    while number in used:
        number += 1
    return number


def new_leaf(kind, numbers, words):
    # What is taken is used from then on, so that no leaf comes twice.
    if kind == "number":
        number = unused_number(numbers)
        numbers[number] = True
        return ("num", number)
    word = unused_word(words)
    words[word] = True
    return ("name" if kind == "quiet" else "ask", word)


def program_of(shape, kinds, rules):
    numbers = told_in(rules, ("num",))
    words = told_in(rules, ("ask", "stop"))
    kind_of = dict(kinds)
    filling = {}
    for gap in gaps_of(shape):
        filling[gap] = ((), new_leaf(kind_of.get(gap), numbers, words))
    return filled(shape, filling)


def parted(rules, scale):
    found = first_parted(rules, scale)
    if found is None:
        return None
    meet = found[0]
    program = program_of(meet[3], meet[4], rules)
    one = step(rules[meet[0]], program, ())
    other = step(rules[meet[1]], program, meet[2])
    return (meet, program, end_of(rules, one, scale, None)[0], end_of(rules, other, scale, None)[0])
