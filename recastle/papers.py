"""Papers: sides of rules run without knowing what stands in the gaps, and what shows that both run alike."""

from recastle.courses import Course
from recastle.sums import minus, plus, times

MOST_QUESTIONS = 8
MOST_PRODUCTS = 40
MOST_FACTORS = 40
MOST_WITHIN = 4
SAME = ("same",)


def sum_of(unknown):
    return (((unknown,), 1),)


def number_sum(number):
    return (((), number),) if number != 0 else ()


def unknowns_in(told):
    found = []
    for product, many in told:
        found.extend(product)
    return found


def within_count(unknown):
    inner = []
    for told in unknown[1]:
        inner.extend(unknowns_in(told))
    return 1 + max([within_count(each) for each in inner], default=0)


def is_too_great(told):
    if len(told) > MOST_PRODUCTS:
        return True
    if any([len(product) > MOST_FACTORS for product, many in told]):
        return True
    return any([within_count(unknown) > MOST_WITHIN for unknown in unknowns_in(told)])


def reckoned_sum(sign, one, other):
    if sign == "add":
        return plus(one, other)
    if sign == "sub":
        return minus(one, other)
    return times(one, other)


class SumCourse(Course):
    def __init__(self, kinds, facts):
        Course.__init__(self)
        self.kinds = dict(kinds)
        self.facts = dict(facts)

    def answer(self, question):
        if question not in self.facts:
            self.halt = ("asks", question)
            return None
        return self.facts[question]

    def end_with(self, told):
        if is_too_great(told):
            self.halt = ("great",)
        else:
            self.ends.append(told)

    def known_sum(self, unknown):
        told = sum_of(unknown)
        if self.facts.get(("nought", told)) is True:
            return ()
        return told

    def atom_sum(self, atom, known):
        if atom[0] == "num":
            return number_sum(atom[1])
        if atom[0] == "name":
            return known[atom[1]]
        return self.known_sum((atom[1], ()))

    def end_gap(self, gap, known):
        unknown = (gap[1], tuple([self.atom_sum(atom, known) for atom in gap[2]]))
        if gap[1] in self.kinds:
            self.end_with(self.known_sum(unknown))
            return
        self.deeds.append(("gap", unknown))
        ends = self.answer(("ends", unknown))
        if ends is True:
            self.end_with(self.known_sum(unknown))
        elif ends is False:
            self.halt = ("gap", unknown)

    def end_leaf(self, leaf, known):
        if leaf[0] == "gap":
            self.end_gap(leaf, known)
        elif leaf[0] == "ask":
            self.deeds.append(leaf)
            self.end_with(self.known_sum(("ask " + leaf[1], ())))
        else:
            self.end_with(self.atom_sum(leaf, known))

    def end_two(self, sign, one, other):
        self.end_with(reckoned_sum(sign, one, other))

    def go_by(self, end, tree, known):
        is_nought = len(end) == 0
        if unknowns_in(end):
            is_nought = self.answer(("nought", end))
        # Where the answer is not known the run is over, and nothing is to wait.
        if is_nought is not None:
            self.await_run(tree[3] if is_nought else tree[2], known)


def side_run(side, kinds, facts):
    course = SumCourse(kinds or (), facts)
    course.run_whole(side, {})
    if course.halt is None:
        return ("through", course.deeds, ("is", course.ends.pop()))
    if course.halt[0] == "great":
        return None
    if course.halt[0] == "asks":
        return course.halt
    return ("through", course.deeds, course.halt)


def sides_run(rule, facts):
    # The first question, or SAME; None where no paper can say that both run alike.
    runs = []
    for side in rule[:2]:
        told = side_run(side, rule[2], facts)
        if told is None or told[0] == "asks":
            return told
        runs.append(told)
    return SAME if runs[0] == runs[1] else None


def paper_by(rule, facts):
    told = sides_run(rule, facts)
    if told is None or told == SAME:
        return told
    if len(facts) == MOST_QUESTIONS:
        return None
    answered = []
    for answer in (True, False):
        inner = paper_by(rule, facts + ((told[1], answer),))
        if inner is None:
            return None
        answered.append(inner)
    return ("ask", told[1], answered[0], answered[1])


def paper(rule):
    return paper_by(rule, ())


def with_fact(facts, question, answer):
    within = dict(facts)
    within[question] = answer
    return within


def is_paper(rule, told):
    waiting = [(told, {})]
    while waiting:
        item = waiting.pop()
        if item[0][0] == "ask":
            question = item[0][1]
            waiting.append((item[0][2], with_fact(item[1], question, True)))
            waiting.append((item[0][3], with_fact(item[1], question, False)))
        elif sides_run(rule, item[1]) != SAME:
            return False
    return True
