"""Trees for the tests, and a second way to reckon with names to hold the program's against."""

import random

from recastle.errors import NoRule
from recastle.reads import read_rule
from recastle.rules import form, gaps_of

LEAVES = [
    ("num", 0),
    ("num", 10 ** 30 - 1),
    ("name", "x"),
    ("ask", "w"),
    ("stop", "w"),
    ("gap", "g", ()),
    ("gap", "g", (("name", "x"),)),
    ("gap", "g", (("name", "x"), ("num", 3))),
    ("gap", "g", (("name", "x"), ("num", 3), ("gap", "h", ()))),
]

A = ("num", 1)
B = ("say", ("name", "b"))
C = ("add", ("name", "c"), ("num", 2))

# Each sign that has parts: the tree and its parts.
INNER = [
    (("say", A), (A,)),
    (("add", A, B), (A, B)),
    (("sub", A, B), (A, B)),
    (("mul", A, B), (A, B)),
    (("then", A, B), (A, B)),
    (("if", A, B, C), (A, B, C)),
    (("let", "x", A, B), (A, B)),
]


def name(word):
    return ("name", word)


def gap(word, *atoms):
    return ("gap", word, tuple(atoms))


def let(word, first, second):
    return ("let", word, first, second)


def both(one, other):
    return ("add", one, other)


def rules(*texts):
    """The rules that are written so, each of which is one."""
    found = [read_rule(text) for text in texts]
    for rule in found:
        form(rule)
    return found


def say_chain(depth, leaf):
    tree = leaf
    for number in range(depth):
        tree = ("say", tree)
    return tree


def wide_tree(leaves):
    tree = leaves[0]
    for leaf in leaves[1:]:
        tree = ("then", tree, leaf)
    return tree


def nameless(tree, bound=()):
    """The tree with each bound name told by how many lets stand between, and no let's name."""
    sign = tree[0]
    if sign == "name":
        if tree[1] in bound:
            return ("bound", bound.index(tree[1]))
        return tree
    if sign == "gap":
        return ("gap", tree[1], tuple(nameless(atom, bound) for atom in tree[2]))
    if sign in ("num", "ask", "stop", "bound"):
        return tree
    if sign == "let":
        return ("let", nameless(tree[2], bound), nameless(tree[3], (tree[1],) + bound))
    return (sign,) + tuple(nameless(part, bound) for part in tree[1:])


def put_nameless(tree, leaves):
    """A nameless tree with its names put otherwise: nothing can be caught there."""
    sign = tree[0]
    if sign == "name":
        return leaves.get(tree[1], tree)
    if sign == "gap":
        return ("gap", tree[1], tuple(put_nameless(atom, leaves) for atom in tree[2]))
    if sign in ("num", "ask", "stop", "bound"):
        return tree
    return (sign,) + tuple(put_nameless(part, leaves) for part in tree[1:])


def nameless_free(tree):
    """The free names of a nameless tree."""
    if tree[0] == "name":
        return {tree[1]}
    found = set()
    for part in tree[1:]:
        if tree[0] == "gap" and part is tree[2]:
            for atom in part:
                found |= nameless_free(atom)
        elif isinstance(part, tuple):
            found |= nameless_free(part)
    return found


def nameless_piece(piece):
    """A piece's tree, nameless, with the number of each of its names in the name's place."""
    names, tree = piece
    return put_nameless(nameless(tree), {name: ("hole", number) for number, name in enumerate(names)})


def nameless_put_in(tree, leaves, depth=0):
    """A nameless piece with leaves in the place of its names, at which lets of the piece stand around."""
    sign = tree[0]
    if sign == "hole":
        leaf = leaves[tree[1]]
        return ("bound", leaf[1] + depth) if leaf[0] == "bound" else leaf
    if sign == "gap":
        return ("gap", tree[1], tuple(nameless_put_in(atom, leaves, depth) for atom in tree[2]))
    if sign in ("num", "name", "ask", "stop", "bound"):
        return tree
    if sign == "let":
        return ("let", nameless_put_in(tree[1], leaves, depth), nameless_put_in(tree[2], leaves, depth + 1))
    return (sign,) + tuple(nameless_put_in(part, leaves, depth) for part in tree[1:])


def nameless_filled(shape, filling):
    """A nameless shape, filled with nameless pieces: nothing can be caught there."""
    if shape[0] == "gap":
        leaves = [filling[atom[1]] if atom[0] == "gap" else atom for atom in shape[2]]
        return nameless_put_in(filling[shape[1]], leaves)
    if shape[0] in ("num", "name", "ask", "stop", "bound"):
        return shape
    return (shape[0],) + tuple(nameless_filled(part, filling) for part in shape[1:])


def nameless_cut(tree, atoms, depth=0):
    """The piece that a part of a nameless tree is, or None where it has a name that no atom tells."""
    sign = tree[0]
    if sign == "bound":
        if tree[1] < depth:
            return tree
        outer = ("bound", tree[1] - depth)
        return ("hole", atoms.index(outer)) if outer in atoms else None
    if sign in ("num", "name", "ask", "stop"):
        return tree
    if sign == "gap":
        inner = [nameless_cut(atom, atoms, depth) for atom in tree[2]]
        return None if None in inner else ("gap", tree[1], tuple(inner))
    inner = [
        nameless_cut(part, atoms, depth + (sign == "let" and number == 1))
        for number, part in enumerate(tree[1:])
    ]
    return None if None in inner else (sign,) + tuple(inner)


def nameless_quiet(tree, kinds):
    if tree[0] == "gap":
        return tree[1] in kinds
    if tree[0] in ("say", "ask", "stop"):
        return False
    return all(nameless_quiet(part, kinds) for part in tree[1:] if isinstance(part, tuple))


def nameless_of_kind(tree, kind, kinds):
    if kind == "number":
        return tree[0] == "num" or tree[0] == "gap" and kinds.get(tree[1]) == "number"
    return kind is None or nameless_quiet(tree, kinds)


def nameless_fit(shape, tree, wanted, kinds, filling):
    """Whether a nameless shape fits a nameless tree; its nameless pieces go into filling."""
    if shape[0] == "gap":
        piece = nameless_cut(tree, list(shape[2]))
        if piece is None or not nameless_of_kind(piece, wanted.get(shape[1]), kinds):
            return False
        return filling.setdefault(shape[1], piece) == piece
    if shape[0] != tree[0] or len(shape) != len(tree):
        return False
    for one, other in zip(shape[1:], tree[1:]):
        if not isinstance(one, tuple):
            if one != other:
                return False
        elif not nameless_fit(one, other, wanted, kinds, filling):
            return False
    return True


def chance_leaf(chance, words):
    return chance.choice([
        ("num", chance.randrange(3)), name(chance.choice(words)), ("gap", chance.choice("gh"), ()),
    ])


def chance_tree(chance, depth, words):
    if depth == 0 or chance.random() < 0.1:
        atoms = [chance_leaf(chance, words) for number in range(chance.randrange(4))]
        return chance.choice([
            chance_leaf(chance, words), name(chance.choice(words)), gap(chance.choice("gh"), *atoms),
            ("ask", chance.choice(words)), ("stop", chance.choice(words)),
        ])
    sign = chance.choice(["say", "add", "sub", "mul", "then", "if", "let", "let", "let"])
    many = {"say": 1, "if": 3}.get(sign, 2)
    inner = tuple(chance_tree(chance, depth - 1, words) for number in range(many))
    if sign == "let":
        return ("let", chance.choice(words)) + inner
    return (sign,) + inner


def chance_trees(seed, many, depth=4, words="xyz"):
    chance = random.Random(seed)
    return [chance_tree(chance, depth, words) for number in range(many)]


def without_gaps(tree):
    if tree[0] == "gap":
        return ("num", len(tree[2]))
    return tuple(without_gaps(part) if isinstance(part, tuple) else part for part in tree)


def chance_programs(seed, many, depth=4, words="xyz"):
    return [without_gaps(tree) for tree in chance_trees(seed, many, depth, words)]


def chance_dicts(seed, many, words="xyz"):
    chance = random.Random(seed)
    return [
        {word: chance_leaf(chance, words) for word in words if chance.random() < 0.7}
        for number in range(many)
    ]


# The gaps of the rules below, with as many atoms as each has.
ATOMS_OF = {"a": 0, "b": 0, "n": 0, "p": 1, "q": 1, "r": 2, "s": 3}
LET_WORDS = ["x", "y", "z", "u", "v", "w"]


def chance_shape(chance, depth, scope, free_words):
    """A shape whose names are all bound, its lets with names of their own."""
    fitting = [word for word, many in ATOMS_OF.items() if many <= len(scope)]
    if depth == 0 or chance.random() < 0.15:
        leaf = chance.random()
        if scope and leaf < 0.2:
            return name(chance.choice(scope))
        if leaf < 0.3:
            return chance.choice([("num", chance.randrange(3)), ("ask", "k"), ("stop", "k")])
        word = chance.choice(fitting)
        return gap(word, *[name(atom) for atom in chance.sample(scope, ATOMS_OF[word])])
    sign = chance.choice(["say", "add", "sub", "if", "let", "let", "let"])
    if sign == "let" and free_words:
        word = free_words.pop(0)
        first = chance_shape(chance, depth - 1, scope, free_words)
        return let(word, first, chance_shape(chance, depth - 1, scope + [word], free_words))
    many = {"say": 1, "if": 3}.get(sign, 2)
    sign = "add" if sign == "let" else sign
    return (sign,) + tuple(chance_shape(chance, depth - 1, scope, free_words) for number in range(many))


def chance_shapes(seed, many, depth=3):
    chance = random.Random(seed)
    return [chance_shape(chance, depth, [], list(LET_WORDS)) for number in range(many)]


def chance_piece(chance, word, depth, words="xyzuvk"):
    """A piece for the gap of that word; n is a number's."""
    names = tuple(chance.sample(words, ATOMS_OF[word]))
    if word == "n":
        return ((), ("num", chance.randrange(3)))
    tree = chance_tree(chance, depth, list(words) + list(names) * 2)
    return (names, tree)


def chance_fillings(seed, many, depth=2):
    chance = random.Random(seed)
    return [
        {word: chance_piece(chance, word, depth) for word in ATOMS_OF}
        for number in range(many)
    ]


# What is no scale: no dict, a wrong key, no tuple, a wrong length, no whole number, a number out of bounds.
NO_SCALES = [
    None, 0, 1, True, "", "say", (), [], [("say", (1, 1))], (("say", (1, 1)),),
    {"num": (1,)}, {"name": (1,)}, {"ask": (1,)}, {"stop": (1,)}, {"gap": (1,)}, {"": (1, 1)}, {"Say": (1, 1)},
    {"says": (1, 1)}, {None: (1, 1)}, {1: (1, 1)}, {True: (1, 1)}, {("say",): (1, 1)}, {"+": (1, 1, 1)},
    {"say": None}, {"say": 1}, {"say": True}, {"say": "11"}, {"say": [1, 1]}, {"say": {1: 1}}, {"say": {}},
    {"say": ()}, {"say": (1,)}, {"say": (1, 1, 1)}, {"add": (1, 1)}, {"add": (1, 1, 1, 1)}, {"sub": (1, 1)},
    {"sub": (1, 1, 1, 1)}, {"mul": (1, 1)}, {"mul": (1, 1, 1, 1)}, {"then": (1, 1)}, {"then": (1, 1, 1, 1)},
    {"if": (1, 1, 1)}, {"if": (1, 1, 1, 1, 1)}, {"let": (1, 1)}, {"let": (1, 1, 1, 1)},
    {"say": ("1", 1)}, {"say": (1, "1")}, {"say": (1, None)}, {"say": (None, 1)}, {"say": ((1,), 1)},
    {"say": (1, [1])}, {"say": (True, 1)}, {"say": (1, True)}, {"add": (1, 1, True)}, {"if": (1, 1, 1, True)},
    {"let": (1, True, 1)}, {"say": (1, {})}, {"say": (1, "")},
    {"say": (0, 1)}, {"say": (10, 1)}, {"say": (-1, 1)}, {"say": (1, 0)}, {"say": (1, 4)}, {"say": (1, -1)},
    {"say": (10 ** 30, 1)}, {"add": (1, 4, 1)}, {"add": (1, 1, 4)}, {"add": (1, 0, 1)}, {"add": (1, 1, 0)},
    {"if": (1, 1, 1, 4)}, {"if": (1, 1, 1, 0)}, {"if": (1, 1, 4, 1)}, {"if": (0, 1, 1, 1)}, {"let": (10, 1, 1)},
    {"let": (1, 1, 4)}, {"then": (1, 1, 0)}, {"mul": (0, 1, 1)}, {"sub": (1, 4, 1)}, {"say": (False, 1)},
    # The wrong one stands behind right ones.
    {"say": (9, 3), "add": (1, 1, 4)}, {"say": (1, 1), "num": (1,)}, {"if": (1, 1, 1, 1), "let": [1, 1, 1]},
]

SCALES = [
    {}, {"say": (1, 1)}, {"say": (9, 3)}, {"add": (2, 3, 1)}, {"let": (1, 1, 2), "if": (3, 1, 2, 3)},
    {"say": (9, 3), "add": (9, 3, 3), "sub": (9, 3, 3), "mul": (9, 3, 3), "then": (9, 3, 3), "if": (9, 3, 3, 3),
     "let": (9, 3, 3)},
    {"say": (2, 1), "add": (3, 1, 2), "sub": (4, 2, 1), "mul": (5, 1, 3), "then": (6, 3, 1), "if": (7, 1, 2, 3),
     "let": (8, 2, 3)},
]


def gap_words(tree):
    """The gaps of a shape in the order of places, each as often as it stands there."""
    if tree[0] == "gap":
        return [tree[1]]
    return [word for part in tree[1:] if isinstance(part, tuple) for word in gap_words(part)]


def put_for_gaps(tree, trees):
    """A plain shape with trees in the place of the gaps that they tell."""
    if tree[0] == "gap":
        return trees.get(tree[1], tree)
    return tuple(put_for_gaps(part, trees) if isinstance(part, tuple) else part for part in tree)


def called_alike(words, kinds, *shapes):
    """Shapes with numbers for gaps in the order of the words, and their kinds, so that calling them makes no odds."""
    numbers = {}
    for word in words:
        numbers.setdefault(word, len(numbers))
    trees = {word: ("gap", number, ()) for word, number in numbers.items()}
    told = sorted((numbers[word], kind) for word, kind in kinds)
    return (told,) + tuple(put_for_gaps(shape, trees) for shape in shapes)


def rule_called_alike(rule):
    return called_alike(gap_words(rule[0]), rule[2], rule[0], rule[1])


def chance_plain_shape(chance, depth, gaps="abc", signs=("say", "add", "add", "then", "if")):
    """A shape without lets, its gaps without atoms."""
    if depth == 0 or chance.random() < 0.2:
        if chance.random() < 0.6:
            return gap(chance.choice(gaps))
        return chance.choice([("num", 0), ("num", 1), ("ask", "k"), ("stop", "k")])
    sign = chance.choice(signs)
    many = {"say": 1, "if": 3}.get(sign, 2)
    return (sign,) + tuple(chance_plain_shape(chance, depth - 1, gaps, signs) for number in range(many))


def chance_kinds(chance, shape, likely=0.4):
    return tuple(
        (word, chance.choice(["quiet", "number"])) for word in sorted(set(gap_words(shape))) if chance.random() < likely)


def chance_plain_rules(chance, many, is_fit, depth=2):
    """Plain rules, as many, of which is_fit is true."""
    found = []
    while len(found) < many:
        left = chance_plain_shape(chance, depth)
        rule = (left, chance_plain_shape(chance, depth - 1), chance_kinds(chance, left))
        if is_fit(rule):
            found.append(rule)
    return found


def chance_of_kind(chance, kind, depth=2):
    """A program that may stand in a gap of the kind."""
    if kind == "number":
        return ("num", chance.randrange(3))
    if kind == "quiet" and (depth == 0 or chance.random() < 0.5):
        return chance.choice([("num", 0), name("x"), name("y")])
    if kind == "quiet":
        return (chance.choice(["add", "then"]),) + tuple(chance_of_kind(chance, kind, depth - 1) for part in range(2))
    return put_for_gaps(chance_plain_shape(chance, depth, "xy"), {"x": name("x"), "y": name("y")})


def is_rule(rule):
    try:
        form(rule)
    except NoRule:
        return False
    return True


def chance_rules(seed, many, depth=3):
    """Rules with lets, many of which have a paper: the right is made of the left or of a part of it."""
    chance = random.Random(seed)
    shapes = chance_shapes(seed + 1, many * 8, depth)
    found = []
    for number, left in enumerate(shapes):
        rights = [left, shapes[number - 1], ("then", ("num", 1), left), ("add", left, ("num", 0)),
                  ("let", "k", left, ("name", "k")), ("if", ("num", 2), left, ("stop", "k"))]
        rights += [part for part in left[1:] if isinstance(part, tuple)]
        kinds = tuple((word, "number" if word == "n" else "quiet") for word in "abnpq" if chance.random() < 0.5)
        rule = (left, chance.choice(rights), tuple(pair for pair in kinds if pair[0] in gaps_of(left)))
        if is_rule(rule):
            found.append(rule)
    return found[:many]


def chance_filling(chance, rule):
    """Pieces for the gaps of a rule, of their kinds."""
    kinds = dict(rule[2])
    filling = {}
    for word, many in gaps_of(rule[0]).items():
        names = tuple(chance.sample("uvwxyz", many))
        tree = without_gaps(chance_tree(chance, 2, "xyk" + "".join(names)))
        if word in kinds:
            tree = both(name(chance.choice(("x",) + names)), ("num", chance.randrange(3)))
        if kinds.get(word) == "number":
            tree = ("num", chance.choice([0, 1, 10 ** 30 - 1]))
        filling[word] = (names, tree)
    return filling


def chance_pairs(chance, rule, many):
    """Pairs of programs, before and behind, as many as told, that a plain rule makes."""
    kinds = dict(rule[2])
    pairs = []
    for number in range(many):
        pieces = {word: chance_of_kind(chance, kinds.get(word)) for word in set(gap_words(rule[0]))}
        pairs.append((put_for_gaps(rule[0], pieces), put_for_gaps(rule[1], pieces)))
    return pairs
