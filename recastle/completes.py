"""Rules completed by further ones, till all their meets come together."""

from recastle.errors import NoRule
from recastle.meets import first_parted
from recastle.rows import row_on, row_turned_round
from recastle.rules import form, gaps_of
from recastle.trees import size
from recastle.worth import check_scale, falls

MOST_PARTS = 20
MOST_GAPS = 6


def is_rule(rule):
    try:
        form(rule)
    except NoRule:
        return False
    return True


def made_rule(s, t, kinds, scale):
    # By itself, for there may be no rule whose fall would look at the scale.
    check_scale(scale)
    for left, right in ((s, t), (t, s)):
        gaps = gaps_of(left)
        rule = (left, right, tuple([pair for pair in kinds or () if pair[0] in gaps]))
        if is_rule(rule) and falls(rule, scale):
            return rule
    return None


def is_too_large(rule):
    return max(size(rule[0]), size(rule[1])) > MOST_PARTS or len(gaps_of(rule[0])) > MOST_GAPS


def row_between_ends(rules, found):
    # From one's end back to the meet's shape, and from there on to other's.
    meet = found[0]
    to_one = row_on(rules, meet[3], [(meet[0], ())] + found[1][1], meet[4])
    to_other = row_on(rules, meet[3], [(meet[1], meet[2])] + found[2][1], meet[4])
    return row_turned_round(meet[3], to_one) + to_other


def completed(rules, scale, most=12):
    grown = list(rules)
    rows = []
    found = first_parted(grown, scale)
    while found is not None:
        s = found[1][0]
        t = found[2][0]
        kinds = found[0][4]
        row = row_between_ends(grown, found)
        rule = made_rule(s, t, kinds, scale)
        if rule is None:
            return ("unordered", grown, rows, (s, t, kinds), row)
        if len(grown) >= most or is_too_large(rule):
            return ("many", grown, rows)
        if rule[0] != s:
            row = row_turned_round(s, row)
        rows.append((kinds, row))
        grown.append(rule)
        found = first_parted(grown, scale)
    return ("done", grown, rows)
