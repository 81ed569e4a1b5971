"""Rules fitted to trees, and shapes filled with the pieces that were found."""

from recastle.errors import NoFill
from recastle.names import alike, alike_heads, free_names, pairs_in, renamed, unused_word, words_used
from recastle.rules import gaps_of, is_quiet
from recastle.trees import part_at, parts, placed_parts, places, put_at


def is_number(tree, kinds):
    if tree[0] == "gap":
        return dict(kinds).get(tree[1]) == "number"
    return tree[0] == "num"


def is_of_kind(tree, kind, kinds):
    if kind == "number":
        return is_number(tree, kinds)
    return kind != "quiet" or is_quiet(tree, kinds)


def binder(name, pairs):
    # A let farther in hides those farther out that bind the same name.
    for pair in reversed(pairs):
        if pair[1] == name:
            return pair[0]
    return None


def has_no_other_name(tree, atoms, pairs):
    # Most gaps have no let around, and need no look at what is free in the piece.
    if not pairs:
        return True
    told = [atom[1] for atom in atoms] + [None]
    return all([binder(name, pairs) in told for name in free_names(tree)])


def word_apart(tree, names):
    used = words_used(tree, {})
    for name in names:
        used[name] = True
    return unused_word(used)


def piece_names(tree, atoms, pairs):
    bound = dict(pairs)
    names = [bound[atom[1]] for atom in atoms]
    for number, atom in enumerate(atoms):
        # A name that a let farther in hides can't stand in the piece: any other word does for it.
        if binder(names[number], pairs) != atom[1]:
            names[number] = word_apart(tree, names)
    return tuple(names)


def piece_of(gap, tree, pairs):
    if has_no_other_name(tree, gap[2], pairs):
        return (piece_names(tree, gap[2], pairs), tree)
    return None


def bound_piece(piece):
    # Pieces are alike, their names put otherwise, just where they are with their names bound.
    tree = piece[1]
    for name in piece[0]:
        tree = ("let", name, ("num", 0), tree)
    return tree


def takes_piece(filling, gap, piece):
    if piece is None:
        return False
    if gap in filling:
        return alike(bound_piece(filling[gap]), bound_piece(piece))
    filling[gap] = piece
    return True


def fit(rule, tree, kinds=None):
    wanted = dict(rule[2])
    filling = {}
    level = [(rule[0], tree, ())]
    while level:
        deeper = []
        for shape, part, pairs in level:
            if shape[0] == "gap":
                if not is_of_kind(part, wanted.get(shape[1]), kinds or ()):
                    return None
                if not takes_piece(filling, shape[1], piece_of(shape, part, pairs)):
                    return None
            elif not alike_heads(shape, part, pairs):
                return None
            else:
                for number, both in enumerate(zip(parts(shape), parts(part))):
                    deeper.append((both[0], both[1], pairs_in(shape, part, number, pairs)))
        level = deeper
    return filling


def outer_names(piece):
    return [name for name in free_names(piece[1]) if name not in piece[0]]


def would_catch(let, filling):
    return any([let[1] in outer_names(filling[gap]) for gap in gaps_of(let[3])])


def words_of_all(shape, filling):
    used = words_used(shape, {})
    for gap in gaps_of(shape):
        used.update(words_used(filling[gap][1], {}))
    return used


def with_lets_apart(shape, filling):
    used = words_of_all(shape, filling)
    apart = shape
    for place in places(shape):
        part = part_at(apart, place)
        if part[0] == "let" and would_catch(part, filling):
            word = unused_word(used)
            used[word] = True
            inner = renamed(part[3], {part[1]: ("name", word)})
            apart = put_at(apart, place, ("let", word, part[2], inner))
    return apart


def atom_leaf(atom, filling):
    if atom[0] == "gap":
        return filling[atom[1]][1]
    return atom


def piece_at(gap, filling):
    piece = filling[gap[1]]
    leaves = [atom_leaf(atom, filling) for atom in gap[2]]
    return renamed(piece[1], dict(zip(piece[0], leaves)))


def filled(shape, filling):
    for gap in gaps_of(shape):
        if gap not in filling:
            raise NoFill(f"the filling lacks the gap {gap}")
    apart = with_lets_apart(shape, filling)
    whole = apart
    for place, part in placed_parts(apart):
        if part[0] == "gap":
            whole = put_at(whole, place, piece_at(part, filling))
    return whole
