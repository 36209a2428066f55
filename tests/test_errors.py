"""Point 2 and the interface: the refusals."""

import unittest

from wantprices import errors
from wantprices.errors import Beyond, NoLine, NoText, NotOfKind, WantError


class Refusals(unittest.TestCase):

    def test_all_stand_straight_under_want_error(self):
        self.assertEqual(WantError.__bases__, (ValueError,))
        for refusal in (NoText, NoLine, NotOfKind, Beyond):
            self.assertEqual(refusal.__bases__, (WantError,))

    def test_no_other_refusals_stand_lower(self):
        classes = [value for value in vars(errors).values() if isinstance(value, type)]
        for refusal in classes:
            self.assertIn(refusal.__bases__, ((ValueError,), (WantError,)))

    def test_each_is_taken_as_a_want_error_and_as_a_value_error(self):
        for refusal in (NoText("why"), NoLine("why"), NotOfKind(1), Beyond(2)):
            with self.assertRaises(WantError):
                raise refusal
            with self.assertRaises(ValueError):
                raise refusal

    def test_none_is_taken_as_another(self):
        made = [NoText("why"), NoLine("why"), NotOfKind(1), Beyond(2)]
        for refusal in made:
            self.assertEqual([isinstance(refusal, type(other)) for other in made].count(True), 1)

    def test_texts_are_kept(self):
        self.assertEqual(str(NoText("no such town")), "no such town")
        self.assertEqual(str(NoLine("no such line")), "no such line")
        self.assertEqual(str(WantError("no")), "no")

    def test_values_are_set_when_made(self):
        for number in range(5):
            self.assertEqual(NotOfKind(number).hand, number)
            self.assertEqual(Beyond(number).thing, number)

    def test_values_by_the_names_of_the_arguments(self):
        self.assertEqual(NotOfKind(hand=3).hand, 3)
        self.assertEqual(Beyond(thing=4).thing, 4)

    def test_words_name_what_was_refused(self):
        self.assertIn("3", str(NotOfKind(hand=3)))
        self.assertIn("4", str(Beyond(thing=4)))


if __name__ == "__main__":
    unittest.main()
