"""Names: which are free, which trees are alike, and names put otherwise.

All walks go level by level, not by recursion: a tree may be as deep as it has parts.
"""

from recastle.trees import LEAF_SIGNS, all_parts, parts, with_parts

LETTERS = "abcdefghijklmnopqrstuvwxyz"
KEPT_WORDS = ("let", "in", "if", "then", "else", "say", "ask", "stop", "where", "quiet", "number")


def names_at(part):
    if part[0] == "name":
        return [part[1]]
    if part[0] == "gap":
        return [atom[1] for atom in part[2] if atom[0] == "name"]
    return []


def bound_in(part, number, bound):
    # A let's own first part does not yet know its name.
    if part[0] == "let" and number == 1:
        return bound + (part[1],)
    return bound


def free_names(tree):
    free = {}
    level = [(tree, ())]
    while level:
        deeper = []
        for part, bound in level:
            for name in names_at(part):
                if name not in bound:
                    free[name] = True
            for number, inner in enumerate(parts(part)):
                deeper.append((inner, bound_in(part, number, bound)))
        level = deeper
    return sorted(free)


def same_name(one, other, pairs):
    # The innermost let that binds either one must bind both; lets farther out are hidden by it.
    for pair in reversed(pairs):
        if pair[0] == one or pair[1] == other:
            return pair == (one, other)
    return one == other


def alike_leaves(one, other, pairs):
    if one[0] == "name" and other[0] == "name":
        return same_name(one[1], other[1], pairs)
    return one == other


def alike_atoms(one, other, pairs):
    if len(one) != len(other):
        return False
    return all([alike_leaves(mine, its, pairs) for mine, its in zip(one, other)])


def alike_heads(one, other, pairs):
    if one[0] != other[0]:
        return False
    if one[0] == "gap":
        return one[1] == other[1] and alike_atoms(one[2], other[2], pairs)
    return one[0] not in LEAF_SIGNS or alike_leaves(one, other, pairs)


def pairs_in(one, other, number, pairs):
    if one[0] == "let" and number == 1:
        return pairs + ((one[1], other[1]),)
    return pairs


def alike(one, other):
    level = [(one, other, ())]
    while level:
        deeper = []
        for mine, its, pairs in level:
            if not alike_heads(mine, its, pairs):
                return False
            for number, both in enumerate(zip(parts(mine), parts(its))):
                deeper.append((both[0], both[1], pairs_in(mine, its, number, pairs)))
        level = deeper
    return True


def word_of(number):
    word = LETTERS[number % 26]
    rest = number // 26
    while rest > 0:
        # Less one, for a word has no letter that counts as nought: aa comes behind z.
        word = LETTERS[(rest - 1) % 26] + word
        rest = (rest - 1) // 26
    return word


def unused_word(used):
    number = 0
    while word_of(number) in used or word_of(number) in KEPT_WORDS:
        number += 1
    return word_of(number)


def words_used(tree, leaves):
    used = {}
    for part in all_parts(tree):
        if part[0] == "let":
            used[part[1]] = True
        for name in names_at(part):
            used[name] = True
    for leaf in leaves.values():
        for name in names_at(leaf):
            used[name] = True
    return used


def catches(let, leaves):
    coming = [name for name in leaves if name != let[1] and leaves[name] == ("name", let[1])]
    # Most lets catch nothing, and need no look at what is free in them.
    if not coming:
        return False
    free = free_names(let[3])
    return any([name in free for name in coming])


def let_name(let, leaves, used):
    if catches(let, leaves):
        return unused_word(used)
    return let[1]


def leaves_within(let, name, leaves):
    # What the let binds is not free in it, and goes the way of the let's own name.
    within = dict(leaves)
    within[let[1]] = ("name", name)
    return within


def put_leaf(leaf, leaves):
    if leaf[0] == "name":
        return leaves.get(leaf[1], leaf)
    return leaf


def put_head(part, leaves):
    if part[0] == "gap":
        return ("gap", part[1], tuple([put_leaf(atom, leaves) for atom in part[2]]))
    return put_leaf(part, leaves)


def grown_level(heads, ready):
    grown = []
    begin = 0
    for head in heads:
        end = begin + len(parts(head))
        grown.append(with_parts(head, ready[begin:end]))
        begin = end
    return grown


def grown_tree(levels):
    ready = []
    for heads in reversed(levels):
        ready = grown_level(heads, ready)
    return ready[0]


def renamed(tree, leaves):
    used = words_used(tree, leaves)
    levels = []
    level = [(tree, leaves)]
    while level:
        heads = []
        deeper = []
        for part, told in level:
            if part[0] == "let":
                name = let_name(part, told, used)
                used[name] = True
                heads.append(("let", name, part[2], part[3]))
                deeper.append((part[2], told))
                deeper.append((part[3], leaves_within(part, name, told)))
            else:
                heads.append(put_head(part, told))
                deeper.extend([(inner, told) for inner in parts(part)])
        levels.append(heads)
        level = deeper
    return grown_tree(levels)
