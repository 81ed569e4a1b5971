"""Trees and shapes: their parts, and the places at which these stand."""

from recastle.errors import NoPlace

LEAF_SIGNS = ("num", "name", "ask", "stop", "gap")


def is_whole(value):
    # Python counts True and False among the ints; the document does not.
    return isinstance(value, int) and not isinstance(value, bool)


def parts_begin(tree):
    if tree[0] in LEAF_SIGNS:
        return len(tree)
    if tree[0] == "let":
        return 2
    return 1


def parts(tree):
    return tree[parts_begin(tree):]


def with_parts(tree, parts):
    return tree[:parts_begin(tree)] + tuple(parts)


def all_parts(tree):
    # Level by level, not by recursion: a tree may be as deep as it has parts.
    found = []
    level = [tree]
    while level:
        found.extend(level)
        deeper = []
        for part in level:
            deeper.extend(parts(part))
        level = deeper
    return found


def placed_parts(tree):
    found = []
    level = [((), tree)]
    while level:
        found.extend(level)
        deeper = []
        for place, part in level:
            for number, inner in enumerate(parts(part)):
                deeper.append((place + (number,), inner))
        level = deeper
    # Python's order of tuples is the order of places, and no place comes twice.
    return sorted(found)


def size(tree):
    return len(all_parts(tree))


def places(tree):
    return [place for place, part in placed_parts(tree)]


def trees_down_to(tree, place):
    met = [tree]
    for number in place:
        inner = parts(met[-1])
        # Python would take a number below nought as one counted from the end.
        if not is_whole(number) or not 0 <= number < len(inner):
            raise NoPlace("the tree has no such place")
        met.append(inner[number])
    return met


def part_at(tree, place):
    return trees_down_to(tree, place)[-1]


def put_at(tree, place, part):
    met = trees_down_to(tree, place)
    changed = part
    # The part's own tree is the one more that zip leaves out: nothing of it stays.
    for outer, number in reversed(list(zip(met, place))):
        inner = list(parts(outer))
        inner[number] = changed
        changed = with_parts(outer, inner)
    return changed
