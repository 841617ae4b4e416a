"""The forms of tellings, whatever the plan: of promise 3 what needs no plan."""

import unittest

from howfar.forms import is_telling
from tests.samples import odd_values


class Tellings(unittest.TestCase):
    def test_the_four_forms(self):
        for name in ("a", "abcdefgh"):
            for number in (1, 1000):
                for weight in (1, 100):
                    for telling in [("did", name, number), ("knows", name, number), ("again", name),
                                    ("found", name, weight, "b", number), ("found", "b", weight, name, None)]:
                        self.assertTrue(is_telling(telling), telling)

    def test_names(self):
        for name in ["", "abcdefghi", "A", "a b", "a1"] + odd_values(str):
            for telling in [("did", name, 1), ("knows", name, 1), ("again", name), ("found", name, 1, "b", 1),
                            ("found", "b", 1, name, 1)]:
                self.assertFalse(is_telling(telling), telling)

    def test_numbers(self):
        for number in [0, -1, 1001] + odd_values(int, type(None)):
            for telling in [("did", "a", number), ("knows", "a", number), ("found", "a", 1, "b", number)]:
                self.assertFalse(is_telling(telling), telling)
        for telling in [("did", "a", None), ("knows", "a", None), ("found", "a", None, "b", 1)]:
            self.assertFalse(is_telling(telling), telling)
        for weight in [0, 101] + odd_values(int):
            self.assertFalse(is_telling(("found", "a", weight, "b", 1)), weight)

    def test_words(self):
        for word in odd_values() + ["", "Did", "does", "againn"]:
            for rest in [("a",), ("a", 1), ("a", 1, "b", 1)]:
                self.assertFalse(is_telling((word, *rest)), (word, *rest))

    def test_lengths_and_kinds(self):
        for telling in odd_values() + [("did",), ("again",), ("did", "a"), ("did", "a", 1, 1), ("again", "a", 1),
                                       ("found", "a", 1, "b"), ("found", "a", 1, "b", 1, 1), ["again", "a"]]:
            self.assertFalse(is_telling(telling), telling)


if __name__ == "__main__":
    unittest.main()
