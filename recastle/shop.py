"""A shop: rules that have a paper and fall by one scale, and programs turned by them, all as texts."""

from recastle.errors import NoFall, NoNumber, NoPaper, NoText
from recastle.meets import parted
from recastle.papers import paper
from recastle.reads import read, read_rule
from recastle.rows import same
from recastle.rules import form, gaps_of
from recastle.shows import shown, shown_rule
from recastle.trees import is_whole
from recastle.tries import tried
from recastle.turns import turned
from recastle.worth import check_scale, falls


def read_program(text):
    tree = read(text)
    if gaps_of(tree):
        raise NoText("a gap stands in a program")
    return tree


class Shop:
    def __init__(self, scale=None):
        told = {} if scale is None else scale
        check_scale(told)
        self.scale = dict(told)
        self.rules = []

    def take(self, text):
        rule = read_rule(text)
        form(rule)
        if paper(rule) is None:
            raise NoPaper(tried(rule))
        if not falls(rule, self.scale):
            raise NoFall(len(self.rules))
        self.rules.append(rule)
        return len(self.rules) - 1

    def drop(self, number):
        if not is_whole(number) or not 0 <= number < len(self.rules):
            raise NoNumber("no rule of the shop has this number")
        self.rules.pop(number)

    def texts(self):
        return [shown_rule(rule) for rule in self.rules]

    def turn(self, text, way="inner"):
        tree = read_program(text)
        return shown(turned(self.rules, tree, self.scale, way)[0])

    def compare(self, one, other):
        begin = read_program(one)
        end = read_program(other)
        told = same(self.rules, begin, end, self.scale)
        if told[0] == "same":
            return ["same", shown(begin)] + [shown(step[3]) for step in told[1]]
        return ["unlike", shown(told[1]), shown(told[2])]

    def together(self):
        told = parted(self.rules, self.scale)
        if told is None:
            return ["together"]
        return ["parted"] + [shown(tree) for tree in told[1:]]
