import unittest

from gongpath.errors import BadGame, BadPlace, BadPlayer, BadSteps, GongError, TooMany


class Errors(unittest.TestCase):
    def test_the_one_above_all_is_a_value_error(self):
        self.assertEqual(GongError.__bases__, (ValueError,))

    def test_each_stands_straight_under_it(self):
        for error in (BadGame, BadSteps, BadPlayer, BadPlace, TooMany):
            with self.subTest(error.__name__):
                self.assertEqual(error.__bases__, (GongError,))

    def test_the_field_at_is_set_when_created(self):
        for error in (BadGame, BadSteps):
            for at in (None, 0, 39):
                with self.subTest(error.__name__, at=at):
                    self.assertEqual(vars(error(at)), {"at": at})

    def test_the_others_are_raised_with_words_alone(self):
        for error in (GongError, BadPlayer, BadPlace, TooMany):
            with self.subTest(error.__name__):
                self.assertEqual(str(error("these words")), "these words")


if __name__ == "__main__":
    unittest.main()
