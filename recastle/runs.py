"""Programs run: the deeds they do and how they end."""

from recastle.courses import Course


def wrapped(number):
    return number % 10 ** 30


def reckoned(sign, one, other):
    if sign == "add":
        return wrapped(one + other)
    if sign == "sub":
        return wrapped(one - other)
    return wrapped(one * other)


class NumberCourse(Course):
    def __init__(self, asked):
        Course.__init__(self)
        self.asked = asked

    def end_leaf(self, leaf, known):
        if leaf[0] == "num":
            self.ends.append(leaf[1])
        elif leaf[0] == "name":
            self.ends.append(known.get(leaf[1], 0))
        else:
            self.deeds.append(leaf)
            self.ends.append(self.asked.get(leaf[1], 0))

    def end_two(self, sign, one, other):
        self.ends.append(reckoned(sign, one, other))

    def go_by(self, end, tree, known):
        self.await_run(tree[2] if end != 0 else tree[3], known)


def run(tree, known=None, asked=None):
    course = NumberCourse(asked or {})
    course.run_whole(tree, known or {})
    if course.halt is not None:
        return (course.deeds, course.halt)
    return (course.deeds, ("is", course.ends.pop()))
