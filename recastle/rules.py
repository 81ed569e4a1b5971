"""Rules: their gaps, what is quiet, and what makes a rule."""

from recastle.errors import NoRule
from recastle.names import free_names
from recastle.trees import LEAF_SIGNS, all_parts, placed_parts

LOUD_SIGNS = ("say", "ask", "stop")


def gap_parts(shape):
    return [part for place, part in placed_parts(shape) if part[0] == "gap"]


def counted_gaps(shape):
    counted = []
    for part in gap_parts(shape):
        counted.append((part[1], len(part[2])))
        counted.extend([(atom[1], 0) for atom in part[2] if atom[0] == "gap"])
    return counted


def gaps_of(shape):
    first = {}
    for gap, many in counted_gaps(shape):
        first.setdefault(gap, many)
    return first


def is_loud(tree):
    return any([part[0] in LOUD_SIGNS for part in all_parts(tree)])


def is_quiet(tree, kinds=None):
    # Each kind is as good as the other here: a number is quiet too.
    told = dict(kinds or ())
    for part in all_parts(tree):
        if part[0] in LOUD_SIGNS or part[0] == "gap" and part[1] not in told:
            return False
    return True


def begins_with_leaf(rule):
    return rule[0][0] in LEAF_SIGNS


def binds_twice(rule):
    for side in rule[:2]:
        bound = [part[1] for part in all_parts(side) if part[0] == "let"]
        if len(set(bound)) < len(bound):
            return True
    return False


def has_free_name(rule):
    return any([len(free_names(side)) > 0 for side in rule[:2]])


def tells_no_piece(gap):
    # At the left the atoms tell which names a piece may have, so each must be a name, and once.
    return len(set(gap[2])) < len(gap[2]) or any([atom[0] != "name" for atom in gap[2]])


def has_unlike_counts(rule):
    first = gaps_of(rule[0])
    counted = counted_gaps(rule[0]) + counted_gaps(rule[1])
    return any([gap in first and first[gap] != many for gap, many in counted])


def has_no_number_atom(rule):
    kinds = dict(rule[2])
    for part in gap_parts(rule[1]):
        for atom in part[2]:
            if atom[0] == "gap" and kinds.get(atom[1]) != "number":
                return True
    return False


def is_told_wrong(rule):
    if any([tells_no_piece(part) for part in gap_parts(rule[0])]):
        return True
    return has_unlike_counts(rule) or has_no_number_atom(rule)


def has_new_gap(rule):
    left = gaps_of(rule[0])
    return any([gap not in left for gap in gaps_of(rule[1])])


def has_wrong_kind(rule):
    left = gaps_of(rule[0])
    for gap, kind in rule[2]:
        if gap not in left or kind == "number" and left[gap] > 0:
            return True
    return False


def grows_loud(rule):
    return is_loud(rule[1]) and not is_loud(rule[0])


# In the order in which they are due.
REASONS = (
    ("leaf", begins_with_leaf),
    ("twice", binds_twice),
    ("free", has_free_name),
    ("told", is_told_wrong),
    ("gap", has_new_gap),
    ("kind", has_wrong_kind),
    ("loud", grows_loud),
)


def form(rule):
    for why, is_due in REASONS:
        if is_due(rule):
            raise NoRule(why)
