import unittest

from recastle.laid import is_plain
from recastle.reads import read_rule
from recastle.rules import form

PLAIN = [
    "(1 + 2) -> 3",
    "(?a + 0) -> ?a",
    "(?a + ?b) -> (?b + ?a) where a quiet, b number",
    "(if ?a then (say ?b) else ((ask w) ; (stop w))) -> (?a - (?b * 1))",
]

NOT_PLAIN = [
    "(let x = ?a in 1) -> ?a",
    "(let x = 1 in x) -> 1",
    "(1 + 2) -> (let x = 3 in x)",
    "(?a + (say (let x = ?b in 1))) -> ?a",
    "((?a + 1) ; (if 1 then 2 else (let x = 1 in 2))) -> ?a",
    "(?a + 1) -> (?a + (let x = 1 in 2))",
    "(let x = ?a in ?b[x]) -> ?b[1]",
    "(let x = ?a in ?b[x]) -> (let y = ?a in ?b[y])",
]


class IsPlainTest(unittest.TestCase):
    def test_plain(self):
        for text in PLAIN:
            with self.subTest(text):
                form(read_rule(text))
                self.assertIs(is_plain(read_rule(text)), True)

    def test_not_plain(self):
        for text in NOT_PLAIN:
            with self.subTest(text):
                form(read_rule(text))
                self.assertIs(is_plain(read_rule(text)), False)

    def test_a_gap_with_atoms_and_no_let(self):
        # No rule, for its name is free, but told by the words all the same.
        self.assertIs(is_plain(read_rule("(1 + ?a[1]) -> 1")), False)
        self.assertIs(is_plain(read_rule("(1 + ?a) -> ?a[1]")), False)


if __name__ == "__main__":
    unittest.main()
