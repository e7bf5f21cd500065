"""The calls nth, number and deal."""

import itertools
import unittest
from math import comb

from helper import FAR, ask, ask_deck, ask_one, cards, listed_deal, listed_nth, listed_number, listed_row

DECKS = ({"a": 0}, {"a": 1}, {"a": 5}, {"a": 3, "b": 4}, {"a": 0, "b": 2, "c": 0, "d": 3, "e": 1})
HUNDRED = {"a": 1, "b": 40, "c": 0, "d": 58, "e": 1}


class NthTest(unittest.TestCase):
    def test_all_hands_of_small_decks(self):
        for deck in DECKS:
            for h in range(min(7, sum(deck.values())) + 1):
                calls = [("nth", h, i) for i in range(comb(sum(deck.values()), h))]
                for call, found in zip(calls, ask_deck(deck, *calls)):
                    self.assertEqual(found, listed_nth(deck, *call[1:]), (deck, call))

    def test_by_hand(self):
        found = ask_deck({"a": 2, "b": 2}, *[("nth", 2, i) for i in range(6)])
        self.assertEqual(found, [[0, 0, 1, 2, 0], [0, 0, 2, 1, 1], [0, 0, 3, 1, 1], [0, 1, 2, 1, 1], [0, 1, 3, 1, 1],
                                 [0, 2, 3, 0, 2]])

    def test_last_hand_and_one_more(self):
        for deck in DECKS + (HUNDRED,):
            all_cards = sum(deck.values())
            for h in range(min(7, all_cards) + 1):
                hands = comb(all_cards, h)
                found = ask_deck(deck, ("nth", h, hands - 1), ("nth", h, hands), ("nth", h, FAR), ("nth", h, 0))
                last = list(range(all_cards - h, all_cards))
                self.assertEqual(found[0], [0] + last + list(listed_row(deck, last)))
                self.assertEqual(found[1:3], [[-8], [-8]])
                self.assertEqual(found[3], [0] + list(range(h)) + list(listed_row(deck, range(h))))

    def test_h_of_0(self):
        self.assertEqual(ask_one({"a": 3, "b": 1}, "nth", 0, 0), [0, 0, 0])
        self.assertEqual(ask_one({"a": 3, "b": 1}, "nth", 0, 1), [-8])
        self.assertEqual(ask_one({"a": 0}, "nth", 0, 0), [0, 0])
        self.assertEqual(ask(("nth", 0, 0), ("nth", 0, 1), ("nth", 1, 0)), [[0], [-8], [-7]])

    def test_refusals(self):
        for h, i in ((-1, 0), (8, 0), (FAR, 0), (-FAR, 0), (1, -1), (1, -FAR)):
            self.assertEqual(ask_deck({"a": 9, "b": 1}, ("nth", h, i), ("deck",)), [[-1], [0, 10, 9, 1]], (h, i))
        self.assertEqual(ask_deck({"a": 2}, ("nth", 3, 0), ("deck",)), [[-7], [0, 2, 2]])
        self.assertEqual(ask_deck({"a": 2}, ("nth", 2, 1), ("deck",)), [[-8], [0, 2, 2]])

    def test_nearest_refusal_to_0_is_answered(self):
        self.assertEqual(ask_one({"a": 2}, "nth", 8, 0), [-1])
        self.assertEqual(ask_one({"a": 2}, "nth", 3, -1), [-1])
        self.assertEqual(ask_one({"a": 2}, "nth", 8, FAR), [-1])
        self.assertEqual(ask_one({"a": 2}, "nth", 3, FAR), [-7])


class NumberTest(unittest.TestCase):
    def test_all_hands_of_small_decks(self):
        for deck in DECKS:
            for h in range(min(7, sum(deck.values())) + 1):
                for hand in itertools.combinations(range(len(cards(deck))), h):
                    self.assertEqual(ask_one(deck, "number", hand), listed_number(deck, hand), (deck, hand))

    def test_number_of_the_nth_hand(self):
        for h in range(8):
            hands = comb(100, h)
            for i in sorted({0, hands // 3, hands // 2, hands * 7 // 9, hands - 1}):
                hand = ask_one(HUNDRED, "nth", h, i)[1:h + 1]
                self.assertEqual(ask_one(HUNDRED, "number", hand), [0, i], (h, i))

    def test_no_card_and_7_and_8(self):
        found = ask_deck({"a": 8, "b": 2}, ("number", []), ("number", [0, 1, 2, 3, 4, 5, 7]), ("number", range(8)),
                         ("number", range(2, 9)), ("number", range(3, 10)), ("deck",))
        self.assertEqual(found, [[0, 0], [0, 1], [-1], [0, comb(10, 7) - 8], [0, comb(10, 7) - 1], [0, 10, 8, 2]])

    def test_no_card_of_an_empty_deck(self):
        self.assertEqual(ask(("number", []), ("number", [0]), ("kind", 0, "a"), ("number", []), ("number", [0])),
                         [[0, 0], [-1], [0, 0], [0, 0], [-1]])

    def test_rows_of_a_wrong_form(self):
        for row in ([1, 1], [0, 0], [2, 1], [0, 2, 1], [1, 2, 2], [0, 1, 0], [5], [4, 5], [-1], [-1, 0], [0, -1], [FAR],
                    [-FAR], [0, FAR], [0] * 2000, list(range(2000)), [0, 1, 2, 3, 4, 5, 6]):
            found = ask_deck({"a": 2, "b": 3}, ("number", row), ("number", [4]), ("deck",))
            self.assertEqual(found, [[-1], [0, 4], [0, 5, 2, 3]], row)

    def test_cards_there_are_now(self):
        found = ask_deck({"a": 2, "b": 3}, ("number", [1, 4]), ("count", 0, 1), ("number", [1, 4]), ("number", [1, 3]))
        self.assertEqual(found, [[0, 6], [0, 4], [-1], [0, 4]])


class DealTest(unittest.TestCase):
    def test_small_decks(self):
        for deck in DECKS:
            for h in range(min(7, sum(deck.values())) + 1):
                for seed in (0, 1, 2, 3, 77, 123456789, FAR - 1, FAR):
                    self.assertEqual(ask_one(deck, "deal", seed, h), listed_deal(deck, seed, h), (deck, seed, h))

    def test_least_and_greatest_seed(self):
        deck = {"a": 2, "b": 3}
        self.assertEqual(ask_one(deck, "deal", 0, 0), [0, 1442695040888963407, 0, 0])
        x = 1442695040888963407
        found = ask_deck(deck, ("deal", 0, 2), ("nth", 2, x % 10), ("deal", FAR, 2), ("deal", FAR + 1, 2), ("deal", -1, 2))
        self.assertEqual(found[0], [0, x] + found[1][1:])
        self.assertEqual(found[2][1], (FAR * 6364136223846793005 + x) % 18446744073709551616)
        self.assertEqual(found[3:], [[-1], [-1]])

    def test_large_deck(self):
        for seed in (0, 5, 999, FAR):
            dealt = ask_one(HUNDRED, "deal", seed, 7)
            self.assertEqual(dealt[2:], ask_one(HUNDRED, "nth", 7, dealt[1] % comb(100, 7))[1:])
            self.assertEqual(dealt[9:], list(listed_row(HUNDRED, dealt[2:9])))

    def test_no_kinds(self):
        self.assertEqual(ask(("deal", 0, 0), ("deal", 0, 1)), [[0, 1442695040888963407], [-7]])

    def test_just_enough_cards_and_one_less(self):
        deck = {"a": 3, "b": 4}
        self.assertEqual(ask_one(deck, "deal", 9, 7)[2:], [0, 1, 2, 3, 4, 5, 6, 3, 4])
        self.assertEqual(ask_deck({"a": 3, "b": 3}, ("deal", 9, 7), ("deck",)), [[-7], [0, 6, 3, 3]])

    def test_refusals(self):
        for seed, h in ((-1, 0), (-FAR, 0), (0, -1), (0, 8), (0, FAR), (0, -FAR)):
            self.assertEqual(ask_deck({"a": 9}, ("deal", seed, h), ("deck",)), [[-1], [0, 9, 9]], (seed, h))

    def test_nearest_refusal_to_0_is_answered(self):
        self.assertEqual(ask_one({"a": 2}, "deal", -1, 3), [-1])
        self.assertEqual(ask_one({"a": 2}, "deal", 0, 8), [-1])


if __name__ == "__main__":
    unittest.main()
