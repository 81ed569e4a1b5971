"""The order in which the parts of a program, or of a rule's side, are run, whatever they end with."""

from recastle.trees import LEAF_SIGNS, parts


def run_at_first(tree):
    # Whether and how the rest is run hangs on what the first part ended with.
    if tree[0] in ("then", "if", "let"):
        return parts(tree)[:1]
    return parts(tree)


def with_name(known, name, end):
    within = dict(known)
    within[name] = end
    return within


class Course:
    # What is still to be run waits in a row, not in a recursion: a program may be as deep as it has parts.
    # The classes under this one tell what leaves end with, what two ends come to, and where an if goes on.
    def __init__(self):
        self.deeds = []
        self.ends = []
        self.waiting = []
        self.halt = None

    def await_run(self, tree, known):
        self.waiting.append((tree, known, False))

    def await_rest(self, tree, known):
        self.waiting.append((tree, known, True))

    def begin(self, tree, known):
        if tree[0] == "stop":
            self.halt = tree
        elif tree[0] in LEAF_SIGNS:
            self.end_leaf(tree, known)
        else:
            self.await_rest(tree, known)
            for part in reversed(run_at_first(tree)):
                self.await_run(part, known)

    def go_on(self, tree, known):
        end = self.ends.pop()
        if tree[0] == "say":
            self.deeds.append(("say", end))
            self.ends.append(end)
        elif tree[0] == "then":
            self.await_run(tree[2], known)
        elif tree[0] == "if":
            self.go_by(end, tree, known)
        elif tree[0] == "let":
            self.await_run(tree[3], with_name(known, tree[1], end))
        else:
            self.end_two(tree[0], self.ends.pop(), end)

    def run_whole(self, tree, known):
        self.await_run(tree, known)
        while self.waiting and self.halt is None:
            item = self.waiting.pop()
            if item[2]:
                self.go_on(item[0], item[1])
            else:
                self.begin(item[0], item[1])
