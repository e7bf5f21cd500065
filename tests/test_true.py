"""The call true: of which rows a condition is true."""

import unittest

from helper import FAR, ask, ask_deck, ask_one


class TrueTest(unittest.TestCase):
    def check(self, text, row, truth, deck=None):
        self.assertEqual(ask_one(deck or {"a": 9, "b": 9}, "true", text, row), [0, truth], (text, row))

    def test_signs(self):
        for sign, truths in ((">=", (0, 1, 1)), ("<=", (1, 1, 0)), ("=", (0, 1, 0)), (">", (0, 0, 1)), ("<", (1, 0, 0))):
            for number, truth in zip((4, 5, 6), truths):
                self.check("a" + sign + "5", [number, 0], truth)

    def test_sums(self):
        self.check("a+b=7", [3, 4], 1)
        self.check("a+b=7", [3, 3], 0)
        self.check("b=4", [3, 4], 1)

    def test_a_kind_that_stands_twice_counts_twice(self):
        self.check("a+a=6", [3, 0], 1)
        self.check("a+a=3", [3, 0], 0)
        self.check("a+b+a=10", [3, 4], 1)
        self.check("b+a+b+b=15", [3, 4], 1)

    def test_not_all_any(self):
        for a in (0, 1):
            for b in (0, 1):
                self.check("!a=1", [a, b], 1 - a)
                self.check("!!a=1", [a, b], a)
                self.check("a=1&b=1", [a, b], a & b)
                self.check("a=1|b=1", [a, b], a | b)
                self.check("!(a=1|b=1)", [a, b], 1 - (a | b))
                self.check("!a=1|b=1", [a, b], (1 - a) | b)
                self.check("!a=1&b=1", [a, b], (1 - a) & b)
                self.check("a=1&b=0|a=0&b=1", [a, b], a ^ b)
                self.check("(a=1|b=0)&(a=0|b=1)", [a, b], 1 - (a ^ b))
                self.check("a=1&b=1&a+b=2", [a, b], a & b)
                self.check("a=1|b=1|a+b=2", [a, b], a | b)

    def test_and_binds_closer_than_or(self):
        self.check("a=1|b=1&a=0", [1, 0], 1)
        self.check("(a=1|b=1)&a=0", [1, 0], 0)
        self.check("a=0&b=1|a=1", [1, 0], 1)

    def test_rows_of_more_than_a_hand(self):
        self.check("a+b=100", [60, 40], 1, {"a": 60, "b": 40})
        self.check("a<=1000&!a>=1000", [100], 1, {"a": 100})
        self.check("+".join(["a"] * 10) + ">=1000", [100], 1, {"a": 100})

    def test_kinds_of_0_cards(self):
        self.check("b=0", [2, 0, 1], 1, {"a": 2, "b": 0, "c": 1})
        self.assertEqual(ask_one({"a": 2, "b": 0, "c": 1}, "true", "b=1", [2, 1, 1]), [-1])

    def test_rows_of_a_wrong_form(self):
        for row in ([], [1], [1, 1, 1], [1, 5], [-1, 1], [4, 1], [FAR, 0], [0, -FAR], [0] * 2000):
            found = ask_deck({"a": 3, "b": 4}, ("true", "a>=0", row), ("true", "a=3&b=4", [3, 4]))
            self.assertEqual(found, [[-1], [0, 1]], row)

    def test_no_condition(self):
        for text in ("", "a", "a a $", "c=1", "a=1001", "a=1" + " " * 998):
            self.assertEqual(ask_deck({"a": 3}, ("true", text, [1]), ("count", 0, 3)), [[-2], [0, 3]], text)

    def test_nearest_refusal_to_0_is_answered(self):
        self.assertEqual(ask_one({"a": 3}, "true", "$", [4]), [-1])
        self.assertEqual(ask_one({"a": 3}, "true", "", []), [-1])
        self.assertEqual(ask(("true", "a=1", [0]), ("true", "a=1", [])), [[-1], [-2]])


if __name__ == "__main__":
    unittest.main()
