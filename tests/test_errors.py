import unittest

from recastle import errors
from recastle.errors import NoFall, NoPaper, NoPlain, NoRule, RecastError

WITHOUT_FIELD = ["NoText", "TooGreat", "NoPlace", "NoFill", "NoScale", "NoPair", "NoNumber"]
WITH_FIELD = ["NoRule", "NoFall", "NoPlain", "NoPaper"]


class RefusalTest(unittest.TestCase):
    def test_recast_error_is_a_value_error(self):
        self.assertEqual(RecastError.__bases__, (ValueError,))

    def test_each_refusal_stands_under_recast_error_alone(self):
        for word in WITHOUT_FIELD + WITH_FIELD:
            with self.subTest(word):
                self.assertEqual(getattr(errors, word).__bases__, (RecastError,))

    def test_there_are_eleven_refusals(self):
        found = [
            word for word, value in vars(errors).items()
            if isinstance(value, type) and value is not RecastError
        ]
        self.assertEqual(sorted(found), sorted(WITHOUT_FIELD + WITH_FIELD))

    def test_refusals_without_a_field_are_raised_with_words(self):
        for word in WITHOUT_FIELD:
            with self.subTest(word), self.assertRaises(RecastError):
                raise getattr(errors, word)("words")

    def test_fields_are_set_when_the_object_is_made(self):
        self.assertEqual(NoRule("leaf").why, "leaf")
        self.assertEqual(NoFall(3).number, 3)
        self.assertEqual(NoPlain(0).number, 0)
        self.assertEqual(NoPaper(("tried", 7)).tried, ("tried", 7))

    def test_each_object_has_a_field_of_its_own(self):
        first = NoRule("leaf")
        second = NoRule("loud")
        self.assertEqual((first.why, second.why), ("leaf", "loud"))

    def test_each_refusal_says_something(self):
        for refusal in [NoRule("leaf"), NoFall(3), NoPlain(0), NoPaper(("tried", 7))]:
            self.assertNotEqual(str(refusal), "")


if __name__ == "__main__":
    unittest.main()
