"""Plain rules, and two shapes without lets laid over one another."""

from recastle.fits import filled
from recastle.names import alike_heads, unused_word
from recastle.rules import gaps_of, is_loud
from recastle.trees import all_parts, parts


def is_plain(rule):
    for part in all_parts(rule[0]) + all_parts(rule[1]):
        if part[0] == "let" or part[0] == "gap" and part[2]:
            return False
    return True


def with_gaps_put(shape, trees):
    # Gaps that the dict of trees lacks stay as they are.
    filling = {}
    for gap in gaps_of(shape):
        filling[gap] = ((), trees.get(gap, ("gap", gap, ())))
    return filled(shape, filling)


def owned(shape, owner):
    # Words alone would take gaps of two rules that are called alike for one.
    trees = {}
    for gap in gaps_of(shape):
        trees[gap] = ("gap", (owner, gap), ())
    return with_gaps_put(shape, trees)


def owned_kinds(kinds, owner):
    return [((owner, gap), kind) for gap, kind in kinds]


def with_tree_told(trees, gap, tree):
    told = {}
    for other in trees:
        told[other] = with_gaps_put(trees[other], {gap: tree})
    told[gap] = tree
    return told


def looked_up(shape, trees):
    if shape[0] == "gap":
        return trees.get(shape[1], shape)
    return shape


def with_pair_told(trees, one, other):
    # One of both is a gap. There is none, None, where it would have to stand within itself.
    gap = one if one[0] == "gap" else other
    tree = with_gaps_put(other if one[0] == "gap" else one, trees)
    if tree == gap:
        return trees
    if gap[1] in gaps_of(tree):
        return None
    return with_tree_told(trees, gap[1], tree)


def trees_of_both(one, other):
    """Trees by gaps such that both shapes become the same and no more is asked of their gaps, or None."""
    trees = {}
    waiting = [(one, other)]
    while waiting and trees is not None:
        pair = waiting.pop()
        mine = looked_up(pair[0], trees)
        its = looked_up(pair[1], trees)
        if mine[0] == "gap" or its[0] == "gap":
            trees = with_pair_told(trees, mine, its)
        elif alike_heads(mine, its, ()):
            waiting.extend(list(zip(parts(mine), parts(its))))
        else:
            trees = None
    return trees


def narrow(kinds, gap, kind):
    # A number is quiet too, so that it is the narrower one of both.
    if kind == "number" or gap not in kinds:
        kinds[gap] = kind


def narrowed(kinds, trees):
    """The kinds of the gaps that are left where trees stand for gaps of these kinds, or None."""
    left = {}
    for gap, kind in kinds:
        tree = trees.get(gap, ("gap", gap, ()))
        if tree[0] == "gap":
            narrow(left, tree[1], kind)
        elif kind == "number" and tree[0] != "num" or is_loud(tree):
            return None
        else:
            for inner in gaps_of(tree):
                narrow(left, inner, kind)
    return left


def with_words(shape, kinds):
    """The shape with words for its gaps, and their kinds as a rule's."""
    words = {}
    for gap in gaps_of(shape):
        words[unused_word(words)] = gap
    trees = {}
    for word in words:
        trees[words[word]] = ("gap", word, ())
    told = [(word, kinds[words[word]]) for word in words if words[word] in kinds]
    return (with_gaps_put(shape, trees), tuple(sorted(told)))
