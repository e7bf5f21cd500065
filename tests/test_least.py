"""The calls least and compare."""

import unittest
from fractions import Fraction
from math import comb

from helper import FAR, ask, ask_deck, ask_one, listed_compare, listed_least, told

BILLION = 1000000000
DECKS = ({"a": 1, "b": 3}, {"a": 0, "b": 2, "c": 3}, {"a": 2, "b": 0, "c": 1, "d": 2})
TEXTS = ("a>=1", "a=1", "a=1&b=1", "!(a=0|b=2)", "c>=1&a=1")


class LeastTest(unittest.TestCase):
    def test_small_decks(self):
        for deck in DECKS:
            for text in [text for text in TEXTS if ask_one(deck, "read", text)[0] == 1]:
                calls = [("least", a, b, h, d, p, 6, text) for a in range(len(deck)) for b in range(len(deck)) if a != b
                         for h, d in ((0, 0), (1, 0), (0, 1), (2, 1), (1, 3)) if h + d <= sum(deck.values())
                         for p in (0, 1, 3, 4, 6)]
                for call, found in zip(calls, ask_deck(deck, *calls[:390])):
                    self.assertEqual(found, listed_least(deck, *call[1:]), (deck, call))

    def test_large_deck(self):
        # The least n for which it's more likely than not to have a dragon among 12 cards.
        n = next(n for n in range(101) if 2 * (comb(100, 12) - comb(100 - n, 12)) >= comb(100, 12))
        chance = 1 - Fraction(comb(100 - n, 12), comb(100, 12))
        found = ask_deck({"dragon": 0, "rest": 100}, ("least", 0, 1, 7, 5, 1, 2, "dragon>=1"), ("deck",))
        self.assertEqual(found, [[0, n] + told(chance)[1:], [0, 100, 0, 100]])

    def test_chance_that_falls_again(self):
        # Of one card of two the chance for just one a is 0, 1, 0: a half that's passed over later isn't missed.
        deck = {"a": 0, "b": 2}
        self.assertEqual(ask_one(deck, "least", 0, 1, 2, 0, 1, 2, "a=1"), [0, 1, 1, 1])
        deck = {"a": 0, "b": 20}
        chances = [Fraction(n * comb(20 - n, 6), comb(20, 7)) for n in range(21)]
        best = max(chances)
        goal = best.limit_denominator(1000) - Fraction(1, 1000)
        n = next(n for n in range(21) if chances[n] >= goal)
        found = ask_one(deck, "least", 0, 1, 7, 0, goal.numerator, goal.denominator, "a=1")
        self.assertEqual(found, [0, n] + told(chances[n])[1:])
        self.assertLess(chances[20], goal)

    def test_just_p_of_q_is_enough(self):
        deck = {"a": 0, "b": 4}
        self.assertEqual(ask_one(deck, "least", 0, 1, 1, 0, 2, 4, "a=1"), [0, 2, 1, 2])
        self.assertEqual(ask_one(deck, "least", 0, 1, 1, 0, 500000001, BILLION, "a=1"), [0, 3, 3, 4])
        self.assertEqual(ask_one(deck, "least", 0, 1, 1, 0, 500000000, BILLION, "a=1"), [0, 2, 1, 2])

    def test_0_is_enough(self):
        deck = {"a": 2, "b": 2}
        self.assertEqual(ask_one(deck, "least", 0, 1, 1, 0, 1, 2, "a=1"), [0, 0, 1, 2])
        self.assertEqual(ask_one(deck, "least", 0, 1, 1, 0, 0, 1, "a>9"), [0, 0, 0, 1])
        self.assertEqual(ask_one({"a": 2, "b": 0}, "least", 0, 1, 1, 0, 1, 1, "a=1"), [0, 0, 1, 1])

    def test_all_of_b_are_needed(self):
        deck = {"a": 2, "b": 3}
        self.assertEqual(ask_deck(deck, ("least", 0, 1, 1, 0, 1, 1, "a=1"), ("deck",)), [[0, 3, 1, 1], [0, 5, 2, 3]])
        self.assertEqual(ask_one({"a": 0, "b": 100}, "least", 0, 1, 7, 5, 1, 1, "b=0"), [0, 100, 1, 1])

    def test_none_such(self):
        deck = {"a": 2, "b": 3, "c": 1}
        found = ask_deck(deck, ("least", 0, 1, 1, 0, 1, 1, "a=1"), ("deck",), ("least", 0, 1, 1, 0, 5, 6, "a=1"),
                         ("least", 1, 0, 1, 0, 5, 6, "a=1"), ("deck",))
        self.assertEqual(found, [[-8], [0, 6, 2, 3, 1], [0, 3, 5, 6], [-8], [0, 6, 2, 3, 1]])
        self.assertEqual(ask_one({"a": 2, "b": 0}, "least", 0, 1, 1, 0, 1, 1, "b=1"), [-8])

    def test_the_deck_is_not_changed(self):
        deck = {"a": 2, "b": 3}
        found = ask_deck(deck, ("hand", 1, "a=1"), ("least", 0, 1, 1, 0, 4, 5, "a=1"), ("hand", 1, "a=1"), ("deck",),
                         ("count", 0, 1), ("least", 0, 1, 1, 0, 1, 2, "a=1"), ("deck",))
        self.assertEqual(found, [[0, 2, 5], [0, 2, 4, 5], [0, 2, 5], [0, 5, 2, 3], [0, 4], [0, 1, 1, 2], [0, 4, 1, 3]])

    def test_kinds_a_and_b(self):
        deck = {"a": 2, "b": 3}
        for a, b in ((0, 0), (1, 1), (0, 2), (2, 0), (-1, 0), (0, -1), (FAR, 0), (0, -FAR)):
            found = ask_deck(deck, ("least", a, b, 1, 0, 0, 1, "a=1"), ("deck",))
            self.assertEqual(found, [[-1], [0, 5, 2, 3]], (a, b))
        self.assertEqual(ask_one(deck, "least", 1, 0, 1, 0, 1, 1, "b=1"), [0, 2, 1, 1])
        self.assertEqual(ask_one({"a": 2}, "least", 0, 0, 1, 0, 0, 1, "a=1"), [-1])
        self.assertEqual(ask(("least", 0, 1, 0, 0, 0, 1, "a=1")), [[-1]])

    def test_p_and_q(self):
        deck = {"a": 2, "b": 2}
        for p, q, expected in ((0, 0, [-1]), (0, 1, [0, 0, 1, 2]), (1, 1, [0, 2, 1, 1]), (2, 1, [-1]),
                               (0, BILLION, [0, 0, 1, 2]), (BILLION, BILLION, [0, 2, 1, 1]),
                               (BILLION + 1, BILLION, [-1]), (1, BILLION + 1, [-1]), (0, BILLION + 1, [-1]),
                               (-1, 1, [-1]), (-1, -1, [-1]), (0, -1, [-1]), (1, 0, [-1]), (FAR, FAR, [-1]),
                               (0, FAR, [-1]), (-FAR, 1, [-1]), (3, 4, [0, 1, 3, 4]), (4, 4, [0, 2, 1, 1]), (5, 4, [-1])):
            found = ask_deck(deck, ("least", 0, 1, 1, 0, p, q, "a=1"), ("deck",))
            self.assertEqual(found, [expected, [0, 4, 2, 2]], (p, q))

    def test_just_enough_cards_and_one_less(self):
        self.assertEqual(ask_one({"a": 5, "b": 7}, "least", 0, 1, 7, 5, 1, 1, "a=6"), [0, 1, 1, 1])
        self.assertEqual(ask_one({"a": 5, "b": 6}, "least", 0, 1, 7, 5, 0, 1, "a=6"), [-7])
        self.assertEqual(ask_one({"a": 0, "b": 0}, "least", 0, 1, 0, 0, 1, 1, "a=0"), [0, 0, 1, 1])
        self.assertEqual(ask_one({"a": 0, "b": 0}, "least", 0, 1, 1, 0, 0, 1, "a=0"), [-7])

    def test_refusals(self):
        deck = {"a": 20, "b": 20}
        for h, d in ((-1, 0), (8, 0), (0, -1), (0, 6), (FAR, 0), (0, -FAR)):
            found = ask_deck(deck, ("least", 0, 1, h, d, 0, 1, "a=1"), ("deck",))
            self.assertEqual(found, [[-1], [0, 40, 20, 20]], (h, d))
        for text in ("", "$", "a", "c=1", "a=1" + " " * 998):
            found = ask_deck(deck, ("least", 0, 1, 1, 0, 0, 1, text), ("deck",))
            self.assertEqual(found, [[-2], [0, 40, 20, 20]], text)

    def test_nearest_refusal_to_0_is_answered(self):
        deck = {"a": 1, "b": 1}
        self.assertEqual(ask_one(deck, "least", 0, 0, 1, 0, 0, 1, "$"), [-1])
        self.assertEqual(ask_one(deck, "least", 0, 1, 1, 0, 2, 1, "$"), [-1])
        self.assertEqual(ask_one(deck, "least", 0, 1, 7, 5, 1, 0, "a=1"), [-1])
        self.assertEqual(ask_one(deck, "least", 0, 1, 8, 0, 1, 1, "a=9"), [-1])
        self.assertEqual(ask_one(deck, "least", 0, 1, 2, 1, 1, 1, "$"), [-2])
        self.assertEqual(ask_one(deck, "least", 0, 1, 2, 1, 1, 1, "a=9"), [-7])
        self.assertEqual(ask_one(deck, "least", 0, 1, 2, 0, 1, 1, "a=9"), [-8])


class CompareTest(unittest.TestCase):
    def test_less_the_same_and_more(self):
        deck = {"a": 2, "b": 3}
        found = ask_deck(deck, ("compare", 1, 0, "a=1", "b=1"), ("compare", 1, 0, "a=1", "b=0"),
                         ("compare", 1, 0, "b=1", "a=1"), ("compare", 1, 1, "a=1", "a=1"), ("deck",))
        self.assertEqual(found, [[0, 0], [0, 1], [0, 2], [0, 1], [0, 5, 2, 3]])

    def test_small_decks(self):
        for deck in DECKS:
            texts = [text for text in TEXTS if ask_one(deck, "read", text)[0] == 1]
            calls = [("compare", h, d, one, other) for one in texts for other in texts
                     for h, d in ((0, 0), (1, 0), (1, 1), (2, 2)) if h + d <= sum(deck.values())]
            for call, found in zip(calls, ask_deck(deck, *calls)):
                self.assertEqual(found, listed_compare(deck, *call[1:]), (deck, call))

    def test_hand_and_draw_together(self):
        deck = {"a": 1, "b": 9}
        self.assertEqual(ask_one(deck, "compare", 4, 0, "a=1", "a=0"), [0, 0])
        self.assertEqual(ask_one(deck, "compare", 4, 1, "a=1", "a=0"), [0, 1])
        self.assertEqual(ask_one(deck, "compare", 4, 2, "a=1", "a=0"), [0, 2])

    def test_chances_that_are_close(self):
        deck = {"a": 33, "b": 33, "c": 34}
        found = ask_deck(deck, ("compare", 7, 5, "a>=3", "b>=3"), ("compare", 7, 5, "a>=3", "c>=3"),
                         ("compare", 7, 5, "a=12|b>=3", "a>=3"), ("compare", 7, 5, "a>=3&!b=12", "b>=3"))
        self.assertEqual(found, [[0, 1], [0, 0], [0, 2], [0, 1]])

    def test_just_enough_cards_and_one_less(self):
        self.assertEqual(ask_one({"a": 5, "b": 7}, "compare", 7, 5, "a=5", "b=6"), [0, 2])
        self.assertEqual(ask_deck({"a": 5, "b": 6}, ("compare", 7, 5, "a=5", "b=6"), ("deck",)), [[-7], [0, 11, 5, 6]])
        self.assertEqual(ask_one({"a": 0}, "compare", 0, 0, "a=1", "a=0"), [0, 0])

    def test_refusals(self):
        for h, d in ((-1, 0), (8, 0), (0, -1), (0, 6), (FAR, 0), (0, FAR), (-FAR, 0), (0, -FAR)):
            found = ask_deck({"a": 20}, ("compare", h, d, "a=1", "a=2"), ("deck",))
            self.assertEqual(found, [[-1], [0, 20, 20]], (h, d))
        for one, other in (("$", "a=1"), ("a=1", "$"), ("$", "$"), ("", "a=1"), ("a=1", ""), ("a=1", "b=1")):
            found = ask_deck({"a": 20}, ("compare", 1, 1, one, other), ("deck",))
            self.assertEqual(found, [[-2], [0, 20, 20]], (one, other))

    def test_nearest_refusal_to_0_is_answered(self):
        deck = {"a": 2}
        self.assertEqual(ask_one(deck, "compare", 8, 0, "$", "a=1"), [-1])
        self.assertEqual(ask_one(deck, "compare", 7, 6, "a=1", "a=1"), [-1])
        self.assertEqual(ask_one(deck, "compare", 2, 1, "$", "a=1"), [-2])
        self.assertEqual(ask_one(deck, "compare", 2, 1, "a=1", "$"), [-2])
        self.assertEqual(ask(("compare", 0, 0, "a=1", "a=1")), [[-2]])


if __name__ == "__main__":
    unittest.main()
