"""Programs run: the deeds they do and how they end."""

from recastle.trees import LEAF_SIGNS, parts


def wrapped(number):
    return number % 10 ** 30


def reckoned(sign, one, other):
    if sign == "add":
        return wrapped(one + other)
    if sign == "sub":
        return wrapped(one - other)
    return wrapped(one * other)


def with_name(known, name, number):
    within = dict(known)
    within[name] = number
    return within


def run_at_first(tree):
    # Whether and how the rest is run hangs on what the first part ended with.
    if tree[0] in ("then", "if", "let"):
        return parts(tree)[:1]
    return parts(tree)


class Course:
    # What is still to be run waits in a row, not in a recursion: a program may be as deep as it has parts.
    def __init__(self, asked):
        self.asked = asked
        self.deeds = []
        self.ends = []
        self.waiting = []

    def await_run(self, tree, known):
        self.waiting.append((tree, known, False))

    def await_rest(self, tree, known):
        self.waiting.append((tree, known, True))

    def end_leaf(self, leaf, known):
        if leaf[0] == "num":
            self.ends.append(leaf[1])
        elif leaf[0] == "name":
            self.ends.append(known.get(leaf[1], 0))
        else:
            self.deeds.append(leaf)
            self.ends.append(self.asked.get(leaf[1], 0))

    def begin(self, tree, known):
        if tree[0] in LEAF_SIGNS:
            self.end_leaf(tree, known)
        else:
            self.await_rest(tree, known)
            for part in reversed(run_at_first(tree)):
                self.await_run(part, known)

    def go_on(self, tree, known):
        end = self.ends.pop()
        if tree[0] == "say":
            self.deeds.append(("say", end))
            self.ends.append(end)
        elif tree[0] == "then":
            self.await_run(tree[2], known)
        elif tree[0] == "if":
            self.await_run(tree[2] if end != 0 else tree[3], known)
        elif tree[0] == "let":
            self.await_run(tree[3], with_name(known, tree[1], end))
        else:
            self.ends.append(reckoned(tree[0], self.ends.pop(), end))


def run(tree, known=None, asked=None):
    course = Course(asked or {})
    course.await_run(tree, known or {})
    while course.waiting:
        item = course.waiting.pop()
        if item[2]:
            course.go_on(item[0], item[1])
        elif item[0][0] == "stop":
            return (course.deeds, item[0])
        else:
            course.begin(item[0], item[1])
    return (course.deeds, ("is", course.ends.pop()))
