"""Programs, shapes and rules, read from their texts.

The bound on open brackets is looked at ahead of all else, so that reading brackets by recursion goes no deeper.
"""

from recastle.errors import NoText, TooGreat
from recastle.names import KEPT_WORDS, LETTERS
from recastle.shows import BETWEEN

FIGURES = "0123456789"
MOST_SIGNS = 2000
MOST_OPEN = 16
MOST_LETTERS = 8
MOST_FIGURES = 30


class Reader:
    def __init__(self, text):
        self.text = text
        self.at = 0

    def stands(self, piece):
        return self.text.startswith(piece, self.at)

    def skipped(self, piece):
        if not self.stands(piece):
            return False
        self.at += len(piece)
        return True

    def skip(self, piece):
        if not self.skipped(piece):
            raise NoText(f"{piece!r} is missing")

    def run_of(self, signs):
        begin = self.at
        while self.at < len(self.text) and self.text[self.at] in signs:
            self.at += 1
        return self.text[begin:self.at]

    def skip_end(self):
        if self.at < len(self.text):
            raise NoText("the text goes on behind its end")


def most_open(text):
    most = 0
    count = 0
    for sign in text:
        if sign == "(":
            count += 1
        elif sign == ")":
            count = max(count - 1, 0)
        most = max(most, count)
    return most


def begun(text):
    if len(text) > MOST_SIGNS:
        raise TooGreat("the text has too many signs")
    if most_open(text) > MOST_OPEN:
        raise TooGreat("too many brackets are open at once")
    return Reader(text)


def word_from(reader):
    word = reader.run_of(LETTERS)
    if not 1 <= len(word) <= MOST_LETTERS or word in KEPT_WORDS:
        raise NoText(f"{word!r} is no word")
    return word


def number_from(reader):
    figures = reader.run_of(FIGURES)
    if len(figures) > MOST_FIGURES:
        raise NoText("a number is too great")
    if len(figures) > 1 and figures[0] == "0":
        raise NoText("a nought stands ahead of a number")
    return int(figures)


def plain_leaf_from(reader):
    if any([reader.stands(figure) for figure in FIGURES]):
        return ("num", number_from(reader))
    return ("name", word_from(reader))


def atom_from(reader):
    if reader.skipped("?"):
        return ("gap", word_from(reader), ())
    return plain_leaf_from(reader)


def atoms_from(reader):
    if not reader.skipped("["):
        return ()
    atoms = [atom_from(reader)]
    while reader.skipped(" "):
        atoms.append(atom_from(reader))
    reader.skip("]")
    return tuple(atoms)


def shape_from(reader):
    if reader.skipped("("):
        tree = bracket_from(reader)
        reader.skip(")")
        return tree
    if reader.skipped("?"):
        gap = word_from(reader)
        return ("gap", gap, atoms_from(reader))
    return plain_leaf_from(reader)


def bracket_from(reader):
    for sign in ("ask", "stop"):
        if reader.skipped(sign + " "):
            return (sign, word_from(reader))
    if reader.skipped("say "):
        return ("say", shape_from(reader))
    if reader.skipped("if "):
        return if_from(reader)
    if reader.skipped("let "):
        return let_from(reader)
    return two_from(reader)


def if_from(reader):
    asked = shape_from(reader)
    reader.skip(" then ")
    first = shape_from(reader)
    reader.skip(" else ")
    return ("if", asked, first, shape_from(reader))


def let_from(reader):
    name = word_from(reader)
    reader.skip(" = ")
    first = shape_from(reader)
    reader.skip(" in ")
    return ("let", name, first, shape_from(reader))


def two_from(reader):
    first = shape_from(reader)
    for sign in BETWEEN:
        if reader.skipped(BETWEEN[sign]):
            return (sign, first, shape_from(reader))
    raise NoText("no sign stands between two parts")


def kind_from(reader):
    gap = word_from(reader)
    reader.skip(" ")
    for kind in ("quiet", "number"):
        if reader.skipped(kind):
            return (gap, kind)
    raise NoText("a gap has no kind")


def kinds_from(reader):
    if not reader.skipped(" where "):
        return ()
    kinds = [kind_from(reader)]
    while reader.skipped(", "):
        kinds.append(kind_from(reader))
    gaps = [gap for gap, kind in kinds]
    if gaps != sorted(set(gaps)):
        raise NoText("the gaps that have kinds are not in order, each once")
    return tuple(kinds)


def read(text):
    reader = begun(text)
    tree = shape_from(reader)
    reader.skip_end()
    return tree


def read_rule(text):
    reader = begun(text)
    left = shape_from(reader)
    reader.skip(" -> ")
    right = shape_from(reader)
    kinds = kinds_from(reader)
    reader.skip_end()
    return (left, right, kinds)
