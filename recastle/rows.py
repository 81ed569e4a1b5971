"""Rows of steps, on and back, that lead from one shape or program to another one."""

from recastle.errors import NoPlace
from recastle.names import alike
from recastle.trees import is_whole
from recastle.turns import all_turned, check_falling, check_worth, innermost, step

OTHER_WAY = {"on": "back", "back": "on"}


def row_on(rules, begin, taken, kinds=None):
    row = []
    tree = begin
    for number, place in taken:
        tree = step(rules[number], tree, place, kinds)
        row.append((number, place, "on", tree))
    return row


def row_turned_round(begin, row):
    around = []
    tree = begin
    for number, place, way, behind in row:
        around.append((number, place, OTHER_WAY[way], tree))
        tree = behind
    return around[::-1]


def leads_to(rule, tree, place, end, kinds):
    try:
        behind = step(rule, tree, place, kinds)
    except NoPlace:
        return False
    return behind is not None and alike(behind, end)


def is_row_step(rules, ahead, told, kinds):
    number = told[0]
    if not is_whole(number) or not 0 <= number < len(rules):
        return False
    if told[2] == "on":
        return leads_to(rules[number], ahead, told[1], told[3], kinds)
    return told[2] == "back" and leads_to(rules[number], told[3], told[1], ahead, kinds)


def is_row(rules, begin, row, end, kinds=None):
    tree = begin
    for told in row:
        if not is_row_step(rules, tree, told, kinds):
            return False
        tree = told[3]
    return alike(tree, end)


def same(rules, one, other, scale):
    check_falling(rules, scale)
    check_worth(one, scale)
    check_worth(other, scale)
    mine = all_turned(rules, one, None, innermost)
    its = all_turned(rules, other, None, innermost)
    if not alike(mine[0], its[0]):
        return ("unlike", mine[0], its[0])
    return ("same", row_on(rules, one, mine[1]) + row_turned_round(other, row_on(rules, other, its[1])))
