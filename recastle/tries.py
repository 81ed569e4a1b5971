"""Rules tried out: both sides are run with a row of plain pieces in the gaps."""

from recastle.fits import filled
from recastle.names import unused_word
from recastle.rules import gaps_of
from recastle.runs import run

MOST_TRIES = 100
WORD = "q"
KNOWN = {"q": 5}
ASKED = {"q": 7}


def piece_words(many):
    # The name q is the free one, so that no piece may have it as its own.
    used = {WORD: True}
    while len(used) <= many:
        used[unused_word(used)] = True
    return tuple(list(used)[1:])


def pieces_of(many, kind):
    words = piece_words(many)
    trees = [("num", 0), ("num", 1), ("num", 2)]
    if kind != "number":
        trees.append(("name", WORD))
        trees.extend([("name", word) for word in words])
    if kind is None:
        trees.append(("ask", WORD))
        trees.append(("stop", WORD))
    return [(words, tree) for tree in trees]


def pieces_by_gap(rule):
    many_of = gaps_of(rule[0])
    kinds = dict(rule[2])
    pieces = {}
    for gap in sorted(many_of):
        pieces[gap] = pieces_of(many_of[gap], kinds.get(gap))
    return pieces


def count_of_all(pieces):
    count = 1
    for gap in pieces:
        count = count * len(pieces[gap])
    return count


def filling_at(pieces, number):
    filling = {}
    rest = number
    for gap in reversed(list(pieces)):
        filling[gap] = pieces[gap][rest % len(pieces[gap])]
        rest = rest // len(pieces[gap])
    return filling


def runs_alike(rule, filling):
    runs = [run(filled(side, filling), dict(KNOWN), dict(ASKED)) for side in rule[:2]]
    return runs[0] == runs[1]


def tried(rule):
    pieces = pieces_by_gap(rule)
    many = min(count_of_all(pieces), MOST_TRIES)
    for number in range(many):
        filling = filling_at(pieces, number)
        if not runs_alike(rule, filling):
            return ("parted", filling)
    return ("tried", many)
