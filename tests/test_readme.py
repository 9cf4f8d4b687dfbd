import doctest
import os
import unittest

README = os.path.join(os.path.dirname(os.path.dirname(os.path.abspath(__file__))), "README.md")


class Readme(unittest.TestCase):
    def test_the_examples_tell_what_they_say(self):
        told = doctest.testfile(README, module_relative=False)
        self.assertEqual(told.failed, 0)
        self.assertGreater(told.attempted, 10)


if __name__ == "__main__":
    unittest.main()
