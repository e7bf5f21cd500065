"""The calls hand, after, given, first, mean and spread."""

import unittest
from fractions import Fraction
from math import comb

from helper import FAR, ask, ask_deck, ask_one, listed_after, listed_first, listed_given, listed_spread, told

DECKS = ({"a": 4}, {"a": 3, "b": 2}, {"a": 0, "b": 3, "c": 2}, {"a": 2, "b": 1, "c": 2, "d": 1},
         {"a": 1, "b": 2, "c": 0, "d": 1, "e": 2}, {"a": 0, "b": 0})
TEXTS = ("a>=1", "!a=1", "a=2|a=0", "a+b>=2", "b>=1&a<2", "!(a=1|b=1)", "a+a+b>3", "c>=1", "c=1|b+a=2&c=0", "e>=1&d=0",
         "a>=0", "a>1000")


def texts_of(deck):
    return [text for text in TEXTS if ask_one(deck, "read", text)[0] == 1]


class ListedTest(unittest.TestCase):
    """Against all hands of small decks, listed one by one."""

    def sizes(self, deck):
        return [(h, d) for h in range(5) for d in range(4) if h + d <= sum(deck.values())]

    def test_hand(self):
        for deck in DECKS:
            for text in texts_of(deck):
                for h in range(min(7, sum(deck.values())) + 1):
                    self.assertEqual(ask_one(deck, "hand", h, text), listed_after(deck, h, 0, text), (deck, text, h))

    def test_after(self):
        for deck in DECKS:
            for text in texts_of(deck):
                for h, d in self.sizes(deck):
                    found = ask_one(deck, "after", h, d, text)
                    self.assertEqual(found, listed_after(deck, h, d, text), (deck, text, h, d))

    def test_given(self):
        for deck in DECKS:
            texts = texts_of(deck)
            for text_a, text_b in zip(texts, texts[3:] + texts[:3]):
                for h, d in self.sizes(deck):
                    found = ask_one(deck, "given", h, d, text_a, text_b)
                    self.assertEqual(found, listed_given(deck, h, d, text_a, text_b), (deck, text_a, text_b, h, d))

    def test_first(self):
        for deck in DECKS:
            for text in texts_of(deck):
                for h, d in self.sizes(deck):
                    found = ask_one(deck, "first", h, d, text)
                    self.assertEqual(found, listed_first(deck, h, d, text), (deck, text, h, d))


class HandTest(unittest.TestCase):
    def test_large_deck(self):
        deck = {"land": 24, "rest": 36}
        ways = sum(comb(24, n) * comb(36, 7 - n) for n in (2, 3, 4))
        self.assertEqual(ask_one(deck, "hand", 7, "land>=2 & land<=4"), told(Fraction(ways, comb(60, 7))))

    def test_five_kinds_of_100_cards(self):
        deck = {"a": 17, "b": 20, "c": 23, "d": 30, "e": 10}
        ways = 17 * 20 * 23 * 30 * comb(10, 3)
        found = ask_one(deck, "hand", 7, "a=1&b=1&c=1&d=1&e=3")
        self.assertEqual(found, told(Fraction(ways, comb(100, 7))))

    def test_0_and_1_in_lowest_terms(self):
        deck = {"a": 10, "b": 10}
        self.assertEqual(ask_one(deck, "hand", 7, "a>7"), [0, 0, 1])
        self.assertEqual(ask_one(deck, "hand", 7, "a+b=7"), [0, 1, 1])
        self.assertEqual(ask_one(deck, "hand", 1, "a=1"), [0, 1, 2])

    def test_hand_of_0_cards(self):
        self.assertEqual(ask_deck({"a": 0}, ("hand", 0, "a=0"), ("hand", 0, "a=1")), [[0, 1, 1], [0, 0, 1]])

    def test_h_of_7_and_8(self):
        self.assertEqual(ask_deck({"a": 9}, ("hand", 7, "a=7"), ("hand", 8, "a=8")), [[0, 1, 1], [-1]])

    def test_just_enough_cards_and_one_less(self):
        self.assertEqual(ask_one({"a": 3, "b": 4}, "hand", 7, "a=3&b=4"), [0, 1, 1])
        self.assertEqual(ask_one({"a": 3, "b": 3}, "hand", 7, "a=3"), [-7])
        self.assertEqual(ask_one({"a": 0}, "hand", 1, "a=0"), [-7])

    def test_refusals(self):
        for h in (-1, 8, FAR, -FAR):
            self.assertEqual(ask_deck({"a": 9}, ("hand", h, "a=1"), ("count", 0, 9)), [[-1], [0, 9]], h)
        self.assertEqual(ask_deck({"a": 9}, ("hand", 3, "a"), ("count", 0, 9)), [[-2], [0, 9]])
        self.assertEqual(ask(("hand", 0, "a=1")), [[-2]])

    def test_nearest_refusal_to_0_is_answered(self):
        self.assertEqual(ask_one({"a": 2}, "hand", 8, "$"), [-1])
        self.assertEqual(ask_one({"a": 2}, "hand", 8, "a=1"), [-1])
        self.assertEqual(ask_one({"a": 2}, "hand", 3, "$"), [-2])
        self.assertEqual(ask(("hand", 3, "")), [[-2]])


class AfterTest(unittest.TestCase):
    def test_large_deck(self):
        deck = {"land": 24, "rest": 30, "dragon": 4, "elf": 0, "x": 2}
        ways = comb(60, 10) - comb(56, 10)
        self.assertEqual(ask_one(deck, "after", 7, 3, "dragon>=1"), told(Fraction(ways, comb(60, 10))))

    def test_d_of_0_and_5_and_6(self):
        deck = {"a": 6, "b": 7}
        found = ask_deck(deck, ("after", 7, 0, "a=3"), ("hand", 7, "a=3"), ("after", 7, 5, "a=6"), ("after", 7, 6, "a=6"))
        self.assertEqual(found[0], found[1])
        self.assertEqual(found[2:], [[0, 7, 13], [-1]])

    def test_just_enough_cards_and_one_less(self):
        self.assertEqual(ask_one({"a": 5, "b": 7}, "after", 7, 5, "a=5&b=7"), [0, 1, 1])
        self.assertEqual(ask_one({"a": 5, "b": 6}, "after", 7, 5, "a=5"), [-7])
        self.assertEqual(ask_one({"a": 1}, "after", 1, 1, "a=1"), [-7])
        self.assertEqual(ask_one({"a": 0}, "after", 0, 0, "a=0"), [0, 1, 1])

    def test_refusals(self):
        for h, d in ((-1, 0), (8, 0), (0, -1), (0, 6), (FAR, 0), (0, FAR), (-FAR, FAR), (8, -2)):
            self.assertEqual(ask_deck({"a": 20}, ("after", h, d, "a=1"), ("count", 0, 20)), [[-1], [0, 20]], (h, d))
        self.assertEqual(ask_deck({"a": 20}, ("after", 1, 1, "a=1&"), ("count", 0, 20)), [[-2], [0, 20]])

    def test_nearest_refusal_to_0_is_answered(self):
        self.assertEqual(ask_one({"a": 2}, "after", 0, 6, "$"), [-1])
        self.assertEqual(ask_one({"a": 2}, "after", 8, 5, "a=1"), [-1])
        self.assertEqual(ask_one({"a": 2}, "after", 2, 1, "$"), [-2])


class GivenTest(unittest.TestCase):
    def test_ordinary(self):
        # Two lands of three cards are in the hand: of the other four cards two are lands.
        deck = {"land": 4, "elf": 3}
        self.assertEqual(ask_one(deck, "given", 3, 1, "land=2", "land=3"), [0, 1, 2])
        self.assertEqual(ask_one(deck, "given", 3, 0, "land=2", "land=2"), [0, 1, 1])
        self.assertEqual(ask_one(deck, "given", 3, 4, "land=2", "elf=3"), [0, 1, 1])

    def test_large_deck(self):
        deck = {"land": 40, "rest": 60}
        right = comb(37, 2) * comb(56, 3)
        found = ask_one(deck, "given", 7, 5, "land=3", "land=5")
        self.assertEqual(found, told(Fraction(right, comb(93, 5))))

    def test_no_hand_has_a_true(self):
        deck = {"a": 3, "b": 3}
        found = ask_deck(deck, ("given", 2, 1, "a=3", "a=3"), ("given", 2, 1, "a>=0", "a=3"))
        self.assertEqual(found, [[-8], [0, 1, 20]])
        self.assertEqual(ask_one(deck, "given", 2, 1, "a>=0", "a=4"), [0, 0, 1])

    def test_just_enough_cards_and_one_less(self):
        self.assertEqual(ask_one({"a": 5, "b": 7}, "given", 7, 5, "a=1", "a=5"), [0, 1, 1])
        self.assertEqual(ask_one({"a": 5, "b": 6}, "given", 7, 5, "a=1", "a=5"), [-7])

    def test_refusals(self):
        for h, d in ((-1, 0), (8, 0), (0, -1), (0, 6), (FAR, 0), (0, -FAR)):
            found = ask_deck({"a": 20}, ("given", h, d, "a>=0", "a=1"), ("count", 0, 20))
            self.assertEqual(found, [[-1], [0, 20]], (h, d))
        for text_a, text_b in (("$", "a=1"), ("a=1", "$"), ("$", "$"), ("", "a=1"), ("a=1", "")):
            found = ask_deck({"a": 20}, ("given", 1, 1, text_a, text_b), ("count", 0, 20))
            self.assertEqual(found, [[-2], [0, 20]], (text_a, text_b))

    def test_nearest_refusal_to_0_is_answered(self):
        deck = {"a": 2}
        self.assertEqual(ask_one(deck, "given", 8, 0, "$", "a=1"), [-1])
        self.assertEqual(ask_one(deck, "given", 0, 6, "a=1", "$"), [-1])
        self.assertEqual(ask_one(deck, "given", 2, 1, "a=1", "$"), [-2])
        self.assertEqual(ask_one(deck, "given", 1, 0, "a=9", "$"), [-2])
        self.assertEqual(ask_one(deck, "given", 2, 1, "a=9", "a=1"), [-7])
        self.assertEqual(ask_one(deck, "given", 2, 0, "a=9", "a=1"), [-8])


class FirstTest(unittest.TestCase):
    def test_ordinary(self):
        deck = {"a": 1, "b": 3}
        self.assertEqual(ask_one(deck, "first", 1, 3, "a=1"), [0, 1, 4, 1, 4, 1, 4, 1, 4])
        self.assertEqual(ask_one(deck, "first", 0, 2, "a=1"), [0, 0, 1, 1, 4, 1, 4])
        self.assertEqual(ask_one(deck, "first", 4, 0, "a=1"), [0, 1, 1])

    def test_true_first_though_not_later(self):
        # With no card there's no b; once it's true it counts as first, whatever comes then.
        self.assertEqual(ask_one({"a": 1, "b": 1}, "first", 0, 2, "b=0"), [0, 1, 1, 0, 1, 0, 1])
        self.assertEqual(ask_one({"a": 2, "b": 2}, "first", 1, 2, "a=1"), [0, 1, 2, 1, 3, 1, 6])

    def test_never(self):
        self.assertEqual(ask_one({"a": 50, "b": 50}, "first", 7, 5, "a>12"), [0] + [0, 1] * 6)

    def test_large_deck(self):
        deck = {"a": 4, "b": 56}
        expected = [1 - Fraction(comb(56, 7), comb(60, 7))]
        for draws in range(5):
            expected.append(Fraction(comb(56, 7 + draws), comb(60, 7 + draws)) * Fraction(4, 53 - draws))
        self.assertEqual(ask_one(deck, "first", 7, 5, "a>=1"), told(*expected))

    def test_just_enough_cards_and_one_less(self):
        self.assertEqual(ask_one({"a": 5, "b": 7}, "first", 7, 5, "a+b=12"), [0] + [0, 1] * 5 + [1, 1])
        self.assertEqual(ask_one({"a": 5, "b": 6}, "first", 7, 5, "a+b=12"), [-7])
        self.assertEqual(ask_one({"a": 0}, "first", 0, 0, "a=0"), [0, 1, 1])

    def test_refusals(self):
        for h, d in ((-1, 0), (8, 0), (0, -1), (0, 6), (FAR, 0), (0, -FAR)):
            self.assertEqual(ask_deck({"a": 20}, ("first", h, d, "a=1"), ("count", 0, 20)), [[-1], [0, 20]], (h, d))
        self.assertEqual(ask_deck({"a": 20}, ("first", 1, 1, "a=01"), ("count", 0, 20)), [[-2], [0, 20]])

    def test_nearest_refusal_to_0_is_answered(self):
        self.assertEqual(ask_one({"a": 2}, "first", 8, 0, "$"), [-1])
        self.assertEqual(ask_one({"a": 2}, "first", 7, 6, "a=1"), [-1])
        self.assertEqual(ask_one({"a": 2}, "first", 2, 1, "$"), [-2])


class MeanTest(unittest.TestCase):
    def test_ordinary(self):
        deck = {"a": 24, "b": 36, "c": 0}
        found = ask_deck(deck, ("mean", 7, 0), ("mean", 7, 1), ("mean", 7, 2), ("mean", 0, 0), ("mean", 5, 0))
        self.assertEqual(found, [[0, 14, 5], [0, 21, 5], [0, 0, 1], [0, 0, 1], [0, 2, 1]])

    def test_against_the_chances(self):
        deck = {"a": 3, "b": 5}
        for h in range(8):
            total = Fraction(0)
            for number in range(h + 1):
                part = ask_one(deck, "hand", h, "a=" + str(number))
                total += number * Fraction(part[1], part[2])
            self.assertEqual(ask_one(deck, "mean", h, 0), told(total))

    def test_just_enough_cards_and_one_less(self):
        self.assertEqual(ask_one({"a": 3, "b": 4}, "mean", 7, 0), [0, 3, 1])
        self.assertEqual(ask_one({"a": 3, "b": 3}, "mean", 7, 0), [-7])

    def test_no_cards(self):
        self.assertEqual(ask_deck({"a": 0, "b": 0}, ("mean", 0, 0), ("mean", 1, 1)), [[-7], [-7]])

    def test_refusals(self):
        for h, kind in ((-1, 0), (8, 0), (1, -1), (1, 2), (FAR, 0), (0, FAR), (0, -FAR)):
            found = ask_deck({"a": 9, "b": 9}, ("mean", h, kind), ("count", 0, 9))
            self.assertEqual(found, [[-1], [0, 18]], (h, kind))
        self.assertEqual(ask(("mean", 0, 0)), [[-1]])

    def test_nearest_refusal_to_0_is_answered(self):
        self.assertEqual(ask_one({"a": 0}, "mean", 0, 1), [-1])
        self.assertEqual(ask_one({"a": 2}, "mean", 8, 0), [-1])
        self.assertEqual(ask_one({"a": 2}, "mean", 7, 1), [-1])


class SpreadTest(unittest.TestCase):
    def test_small_decks(self):
        for deck in DECKS:
            for h in range(min(7, sum(deck.values())) + 1):
                for kind in range(len(deck)):
                    expected = listed_spread(deck, h, kind) if sum(deck.values()) >= 2 else [-7]
                    self.assertEqual(ask_one(deck, "spread", h, kind), expected, (deck, h, kind))

    def test_by_hand(self):
        # One card of two, one of which is an a: it's always a half away from the mean.
        self.assertEqual(ask_one({"a": 1, "b": 1}, "spread", 1, 0), [0, 1, 4])
        # Two of four: no a, one, two in 1, 4, 1 of 6 hands.
        self.assertEqual(ask_one({"a": 2, "b": 2}, "spread", 2, 1), [0, 1, 3])

    def test_against_the_chances(self):
        deck = {"a": 24, "b": 36, "c": 0}
        chances = [ask_one(deck, "hand", 7, "a=" + str(number)) for number in range(8)]
        mean = Fraction(7 * 24, 60)
        total = sum((number - mean) ** 2 * Fraction(part[1], part[2]) for number, part in enumerate(chances))
        found = ask_deck(deck, ("spread", 7, 0), ("spread", 7, 1), ("spread", 7, 2), ("spread", 0, 0))
        self.assertEqual(found, [told(total), told(total), [0, 0, 1], [0, 0, 1]])

    def test_no_card_one_card_and_two(self):
        self.assertEqual(ask_deck({"a": 0, "b": 0}, ("spread", 0, 0), ("spread", 1, 1)), [[-7], [-7]])
        self.assertEqual(ask_deck({"a": 1, "b": 0}, ("spread", 0, 0), ("spread", 1, 0), ("spread", 1, 1), ("mean", 1, 0)),
                         [[-7], [-7], [-7], [0, 1, 1]])
        self.assertEqual(ask_deck({"a": 1, "b": 1}, ("spread", 0, 0), ("spread", 1, 0), ("spread", 2, 0), ("spread", 3, 0)),
                         [[0, 0, 1], [0, 1, 4], [0, 0, 1], [-7]])

    def test_just_enough_cards_and_one_less(self):
        self.assertEqual(ask_one({"a": 3, "b": 4}, "spread", 7, 0), [0, 0, 1])
        self.assertEqual(ask_deck({"a": 3, "b": 3}, ("spread", 7, 0), ("deck",)), [[-7], [0, 6, 3, 3]])

    def test_refusals(self):
        for h, kind in ((-1, 0), (8, 0), (1, -1), (1, 2), (FAR, 0), (-FAR, 0), (0, FAR), (0, -FAR)):
            found = ask_deck({"a": 9, "b": 9}, ("spread", h, kind), ("deck",))
            self.assertEqual(found, [[-1], [0, 18, 9, 9]], (h, kind))
        self.assertEqual(ask(("spread", 0, 0)), [[-1]])

    def test_nearest_refusal_to_0_is_answered(self):
        self.assertEqual(ask_one({"a": 0}, "spread", 0, 1), [-1])
        self.assertEqual(ask_one({"a": 2}, "spread", 8, 0), [-1])
        self.assertEqual(ask_one({"a": 1}, "spread", 7, 1), [-1])


if __name__ == "__main__":
    unittest.main()
