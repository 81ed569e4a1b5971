"""Rules read off from pairs of programs, before and behind."""

from recastle.errors import NoPair
from recastle.names import alike_heads, grown_tree, unused_word
from recastle.rules import form, is_quiet
from recastle.trees import all_parts, parts

MOST_PAIRS = 8


def has_let(tree):
    return any([part[0] == "let" for part in all_parts(tree)])


def check_pairs(pairs):
    if not 1 <= len(pairs) <= MOST_PAIRS:
        raise NoPair("there is no pair, or there are too many")
    for before, behind in pairs:
        if has_let(before) or has_let(behind):
            raise NoPair("a let stands in a pair")


def begin_alike(trees):
    # A rule has no free names, so that a name is no beginning even where all have it.
    return trees[0][0] != "name" and all([alike_heads(trees[0], tree, ()) for tree in trees])


def rows_within(trees):
    return [tuple([parts(tree)[number] for tree in trees]) for number in range(len(parts(trees[0])))]


def gap_for(trees, words):
    # The words of both sides are one dict, in which the same row of parts has the same word.
    if trees not in words:
        words[trees] = unused_word(list(words.values()))
    return ("gap", words[trees], ())


def common_shape(trees, words):
    # Level by level, not by recursion: a program may be as deep as it has parts.
    levels = []
    level = [tuple(trees)]
    while level:
        heads = []
        deeper = []
        for row in level:
            if begin_alike(row):
                heads.append(row[0])
                deeper.extend(rows_within(row))
            else:
                heads.append(gap_for(row, words))
        levels.append(heads)
        level = deeper
    return grown_tree(levels)


def kind_of(trees):
    if all([tree[0] == "num" for tree in trees]):
        return "number"
    if all([is_quiet(tree) for tree in trees]):
        return "quiet"
    return None


def kinds_of(words):
    told = [(words[trees], kind_of(trees)) for trees in words]
    return tuple(sorted([pair for pair in told if pair[1] is not None]))


def read_off(pairs):
    check_pairs(pairs)
    words = {}
    left = common_shape([before for before, behind in pairs], words)
    right = common_shape([behind for before, behind in pairs], words)
    rule = (left, right, kinds_of(words))
    form(rule)
    return rule
