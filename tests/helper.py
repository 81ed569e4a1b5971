"""Trees for the tests, and a second way to reckon with names to hold the program's against."""

import random

LEAVES = [
    ("num", 0),
    ("num", 10 ** 30 - 1),
    ("name", "x"),
    ("ask", "w"),
    ("stop", "w"),
    ("gap", "g", ()),
    ("gap", "g", (("name", "x"),)),
    ("gap", "g", (("name", "x"), ("num", 3))),
    ("gap", "g", (("name", "x"), ("num", 3), ("gap", "h", ()))),
]

A = ("num", 1)
B = ("say", ("name", "b"))
C = ("add", ("name", "c"), ("num", 2))

# Each sign that has parts: the tree and its parts.
INNER = [
    (("say", A), (A,)),
    (("add", A, B), (A, B)),
    (("sub", A, B), (A, B)),
    (("mul", A, B), (A, B)),
    (("then", A, B), (A, B)),
    (("if", A, B, C), (A, B, C)),
    (("let", "x", A, B), (A, B)),
]


def name(word):
    return ("name", word)


def gap(word, *atoms):
    return ("gap", word, tuple(atoms))


def let(word, first, second):
    return ("let", word, first, second)


def both(one, other):
    return ("add", one, other)


def say_chain(depth, leaf):
    tree = leaf
    for number in range(depth):
        tree = ("say", tree)
    return tree


def wide_tree(leaves):
    tree = leaves[0]
    for leaf in leaves[1:]:
        tree = ("then", tree, leaf)
    return tree


def nameless(tree, bound=()):
    """The tree with each bound name told by how many lets stand between, and no let's name."""
    sign = tree[0]
    if sign == "name":
        if tree[1] in bound:
            return ("bound", bound.index(tree[1]))
        return tree
    if sign == "gap":
        return ("gap", tree[1], tuple(nameless(atom, bound) for atom in tree[2]))
    if sign in ("num", "ask", "stop", "bound"):
        return tree
    if sign == "let":
        return ("let", nameless(tree[2], bound), nameless(tree[3], (tree[1],) + bound))
    return (sign,) + tuple(nameless(part, bound) for part in tree[1:])


def put_nameless(tree, leaves):
    """A nameless tree with its names put otherwise: nothing can be caught there."""
    sign = tree[0]
    if sign == "name":
        return leaves.get(tree[1], tree)
    if sign == "gap":
        return ("gap", tree[1], tuple(put_nameless(atom, leaves) for atom in tree[2]))
    if sign in ("num", "ask", "stop", "bound"):
        return tree
    return (sign,) + tuple(put_nameless(part, leaves) for part in tree[1:])


def nameless_free(tree):
    """The free names of a nameless tree."""
    if tree[0] == "name":
        return {tree[1]}
    found = set()
    for part in tree[1:]:
        if tree[0] == "gap" and part is tree[2]:
            for atom in part:
                found |= nameless_free(atom)
        elif isinstance(part, tuple):
            found |= nameless_free(part)
    return found


def chance_leaf(chance, words):
    return chance.choice([
        ("num", chance.randrange(3)), name(chance.choice(words)), ("gap", chance.choice("gh"), ()),
    ])


def chance_tree(chance, depth, words):
    if depth == 0 or chance.random() < 0.1:
        atoms = [chance_leaf(chance, words) for number in range(chance.randrange(4))]
        return chance.choice([
            chance_leaf(chance, words), name(chance.choice(words)), gap(chance.choice("gh"), *atoms),
            ("ask", chance.choice(words)), ("stop", chance.choice(words)),
        ])
    sign = chance.choice(["say", "add", "sub", "mul", "then", "if", "let", "let", "let"])
    many = {"say": 1, "if": 3}.get(sign, 2)
    inner = tuple(chance_tree(chance, depth - 1, words) for number in range(many))
    if sign == "let":
        return ("let", chance.choice(words)) + inner
    return (sign,) + inner


def chance_trees(seed, many, depth=4, words="xyz"):
    chance = random.Random(seed)
    return [chance_tree(chance, depth, words) for number in range(many)]


def chance_dicts(seed, many, words="xyz"):
    chance = random.Random(seed)
    return [
        {word: chance_leaf(chance, words) for word in words if chance.random() < 0.7}
        for number in range(many)
    ]
