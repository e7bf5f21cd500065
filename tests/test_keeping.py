"""The calls keep, best and advise."""

import itertools
import unittest
from fractions import Fraction
from math import comb, prod

from helper import (FAR, Listing, ask, ask_deck, ask_one, holds, listed_advise, listed_best, listed_keep, listed_row,
                    oracle, told)

DECKS = ({"a": 4}, {"a": 2, "b": 3}, {"a": 1, "b": 2, "c": 3}, {"a": 0, "b": 3, "c": 2},
         {"a": 2, "b": 1, "c": 0, "d": 2, "e": 1})
TEXTS = ("a>=1", "a=1", "b=1&a<2", "!(a=1|b=1)", "a+a+b>3", "c>=1|a=2", "a>=0", "a>1000", "e+d=1")
BIG = {"a": 17, "b": 23, "c": 20, "d": 30, "e": 10}


def texts_of(deck):
    return [text for text in TEXTS if ask_one(deck, "read", text)[0] == 1]


def sizes(deck):
    """All h, least and d for small hands of the deck."""
    return [(h, least, d) for h in range(5) for least in range(h + 1) for d in range(3) if h + d <= sum(deck.values())]


def possible_rows(deck, size):
    return [row for row in itertools.product(*[range(count + 1) for count in deck.values()]) if sum(row) == size]


class ListedTest(unittest.TestCase):
    """Against all hands of small decks, listed card by card."""

    def test_keep(self):
        for deck in DECKS:
            texts = texts_of(deck)
            for text_a, text_b in zip(texts, texts[1:] + texts[:1]):
                calls = [("keep", h, least, d, text_a, text_b) for h, least, d in sizes(deck)]
                for call, found in zip(calls, ask_deck(deck, *calls)):
                    self.assertEqual(found, listed_keep(deck, *call[1:]), (deck, call))

    def test_best(self):
        for deck in DECKS:
            for text in texts_of(deck):
                calls = [("best", h, least, d, text) for h, least, d in sizes(deck)]
                for call, found in zip(calls, ask_deck(deck, *calls)):
                    self.assertEqual(found, listed_best(deck, *call[1:]), (deck, call))

    def test_advise(self):
        for deck in DECKS:
            for text in texts_of(deck)[::2]:
                calls = [("advise", least, d, text, row) for h, least, d in sizes(deck) if least < h < 4
                         for row in possible_rows(deck, h)]
                for call, found in zip(calls, ask_deck(deck, *calls)):
                    self.assertEqual(found, listed_advise(deck, *call[1:]), (deck, call))

    def test_hands_of_7_of_just_enough_cards(self):
        deck = {"a": 3, "b": 4, "c": 2}
        for text in ("a=2", "a>=1&b=3|c=0", "c=2"):
            for least in (0, 3, 6, 7):
                self.assertEqual(ask_one(deck, "keep", 7, least, 2, text, "a+b=7"),
                                 listed_keep(deck, 7, least, 2, text, "a+b=7"))
                self.assertEqual(ask_one(deck, "best", 7, least, 2, text), listed_best(deck, 7, least, 2, text))


class RowByRow:
    """A large deck: the chance of a row with d cards to be drawn is asked of the rows behind one draw."""

    def __init__(self, deck, text):
        self.counts = list(deck.values())
        self.names = list(deck)
        self.tree = oracle(text, deck)
        self.known = {}

    def is_true(self, row, tree):
        return holds(tree, [name for name, number in zip(self.names, row) for card in range(number)])

    def kept(self, row, d):
        if d == 0:
            return Fraction(int(self.is_true(row, self.tree)))
        if (row, d) not in self.known:
            rest = sum(self.counts) - sum(row)
            self.known[row, d] = sum(Fraction(count - row[kind], rest) * self.kept(one_more(row, kind), d - 1)
                                     for kind, count in enumerate(self.counts) if count > row[kind])
        return self.known[row, d]

    def rows(self, size):
        """The rows of so many cards, each with its chance."""
        return [(row, Fraction(prod(map(comb, self.counts, row)), comb(sum(self.counts), size)))
                for row in itertools.product(*[range(min(count, size) + 1) for count in self.counts]) if sum(row) == size]

    def keep(self, h, least, d, tree):
        found = sum(chance * self.kept(row, d) for row, chance in self.rows(least))
        for size in range(least + 1, h + 1):
            found = sum(chance * (self.kept(row, d) if self.is_true(row, tree) else found)
                        for row, chance in self.rows(size))
        return told(found)

    def best(self, h, least, d):
        found = sum(chance * self.kept(row, d) for row, chance in self.rows(least))
        numbers = []
        for size in range(least + 1, h + 1):
            rows = self.rows(size)
            numbers.insert(0, len([row for row, chance in rows if self.kept(row, d) >= found]))
            found = sum(chance * max(self.kept(row, d), found) for row, chance in rows)
        return told(found) + numbers


def one_more(row, kind):
    return row[:kind] + (row[kind] + 1,) + row[kind + 1:]


class LargeDeckTest(unittest.TestCase):
    def test_row_by_row(self):
        for deck, h, least, d, text_a, text_b in (
                (BIG, 7, 3, 2, "a>=2&a<=4", "a>=3&b>=1|c+d>=6"),
                ({"a": 24, "b": 36}, 7, 0, 5, "a>=2&a<=5", "a>=3&a<=6"),
                ({"a": 2, "b": 97, "c": 1}, 7, 4, 5, "a+c>=1", "a=2|c=1&a=1"),
                ({"a": 4, "b": 3, "c": 3, "d": 2}, 7, 2, 5, "!d=0", "a>=1&b=3|c=3")):
            second = RowByRow(deck, text_b)
            best = second.best(h, least, d)
            row = ask_one(deck, "deal", h * d, h)[2 + h:]
            kept = second.kept(tuple(row), d)
            back = second.best(h - 1, least, d)[1:3]
            advised = [0, int(kept >= Fraction(*back))] + told(kept)[1:] + back
            found = ask_deck(deck, ("keep", h, least, d, text_a, text_b), ("best", h, least, d, text_b),
                             ("advise", least, d, text_b, row))
            self.assertEqual(found, [second.keep(h, least, d, oracle(text_a, deck)), best, advised], deck)


class KeepTest(unittest.TestCase):
    def test_by_hand(self):
        # An a is kept; a b, which half of the hands are, is given back for no card at all.
        deck = {"a": 2, "b": 2}
        self.assertEqual(ask_one(deck, "keep", 1, 0, 0, "a=1", "a=1"), [0, 1, 2])
        self.assertEqual(ask_one(deck, "keep", 1, 0, 1, "a=1", "a>=1"), told(Fraction(1, 2) + Fraction(1, 4)))
        self.assertEqual(ask_one(deck, "keep", 2, 1, 0, "a=1", "a=1"), told(Fraction(2, 3) + Fraction(1, 3) / 2))

    def test_least_equal_to_h_is_after(self):
        for h in range(8):
            found = ask_deck(BIG, ("keep", h, h, 5, "a=1", "b>=2"), ("keep", h, h, 5, "a>1000", "b>=2"),
                             ("after", h, 5, "b>=2"))
            self.assertEqual(found[:2], [found[2]] * 2, h)

    def test_all_hands_kept_and_none(self):
        for d in (0, 5):
            found = ask_deck(BIG, ("keep", 7, 0, d, "a>=0", "b>=2"), ("after", 7, d, "b>=2"),
                             ("keep", 7, 0, d, "a>7", "b=2"), ("after", 0, d, "b=2"),
                             ("keep", 7, 4, d, "a>7", "b=2"), ("after", 4, d, "b=2"))
            self.assertEqual([found[0], found[2], found[4]], [found[1], found[3], found[5]])

    def test_a_is_not_asked_of_a_hand_of_least_cards(self):
        # Such a hand is kept anyway.
        self.assertEqual(ask_one({"a": 1, "b": 1}, "keep", 1, 1, 0, "a=1", "b=1"), [0, 1, 2])
        self.assertEqual(ask_one({"a": 1, "b": 1}, "keep", 1, 0, 0, "a=1", "b=1"), [0, 0, 1])

    def test_a_is_asked_of_the_hand_and_b_of_all(self):
        deck = {"a": 1, "b": 2}
        self.assertEqual(ask_one(deck, "keep", 1, 0, 1, "b=1", "a=1"), told(Fraction(2, 3) / 2 + Fraction(1, 9)))

    def test_large_deck(self):
        # One step down: a hand of 7 without an a goes back, then 6 are kept.
        deck = {"a": 40, "b": 60}
        one = ask_deck(deck, ("hand", 7, "a>=1&b>=3"), ("hand", 7, "a=0"), ("hand", 6, "b>=3"))
        with_a, without, smaller = [Fraction(part[1], part[2]) for part in one]
        self.assertEqual(ask_one(deck, "keep", 7, 6, 0, "a>=1", "b>=3"), told(with_a + without * smaller))

    def test_h_of_0(self):
        self.assertEqual(ask_one({"a": 1, "b": 3}, "keep", 0, 0, 1, "a=1", "a=1"), [0, 1, 4])
        self.assertEqual(ask_one({"a": 0}, "keep", 0, 0, 0, "a=1", "a=0"), [0, 1, 1])

    def test_just_enough_cards_and_one_less(self):
        self.assertEqual(ask_one({"a": 5, "b": 7}, "keep", 7, 7, 5, "a=1", "a=5"), [0, 1, 1])
        self.assertEqual(ask_one({"a": 5, "b": 6}, "keep", 7, 7, 5, "a=1", "a=5"), [-7])
        # The hand of h cards is to be had, though the one that's kept may have less.
        self.assertEqual(ask_one({"a": 5, "b": 6}, "keep", 7, 0, 5, "a=1", "a=5"), [-7])

    def test_refusals(self):
        for h, least, d in ((-1, 0, 0), (8, 0, 0), (3, -1, 0), (3, 4, 0), (7, 8, 0), (8, 8, 0), (3, 0, -1), (3, 0, 6),
                            (0, 1, 0), (FAR, 0, 0), (-FAR, 0, 0), (1, FAR, 0), (1, -FAR, 0), (1, 0, FAR), (1, 0, -FAR)):
            found = ask_deck({"a": 20}, ("keep", h, least, d, "a=1", "a=1"), ("deck",))
            self.assertEqual(found, [[-1], [0, 20, 20]], (h, least, d))
        for text_a, text_b in (("$", "a=1"), ("a=1", "$"), ("$", "$"), ("", "a=1"), ("a=1", ""), ("b=1", "a=1")):
            found = ask_deck({"a": 20}, ("keep", 3, 3, 0, text_a, text_b), ("deck",))
            self.assertEqual(found, [[-2], [0, 20, 20]], (text_a, text_b))
        self.assertEqual(ask_deck({"a": 3}, ("keep", 3, 0, 1, "a=1", "a=1"), ("deck",)), [[-7], [0, 3, 3]])

    def test_nearest_refusal_to_0_is_answered(self):
        deck = {"a": 2}
        self.assertEqual(ask_one(deck, "keep", 8, 0, 0, "$", "a=1"), [-1])
        self.assertEqual(ask_one(deck, "keep", 1, 2, 0, "a=1", "$"), [-1])
        self.assertEqual(ask_one(deck, "keep", 1, 1, 6, "a=1", "a=1"), [-1])
        self.assertEqual(ask_one(deck, "keep", 7, 8, 5, "a=1", "a=1"), [-1])
        self.assertEqual(ask_one(deck, "keep", 2, 0, 1, "$", "a=1"), [-2])
        self.assertEqual(ask_one(deck, "keep", 2, 0, 1, "a=1", "$"), [-2])
        self.assertEqual(ask(("keep", 1, 0, 0, "a=1", "a=1")), [[-2]])


class BestTest(unittest.TestCase):
    def test_by_hand(self):
        # With no card and no draw there's never an a: a b may be kept as well.
        self.assertEqual(ask_one({"a": 2, "b": 2}, "best", 1, 0, 0, "a=1"), [0, 1, 2, 2])
        # Two b are given back for one card.
        self.assertEqual(ask_one({"a": 1, "b": 3}, "best", 2, 1, 0, "a=1"), told(Fraction(1, 2) + Fraction(1, 8)) + [1])

    def test_as_good_is_best_kept(self):
        # One b: the chance is 2/3 once it's kept, and 2/3 once it's given back; with one a it's 1/3.
        deck = {"a": 2, "b": 2}
        self.assertEqual(ask_one(deck, "best", 1, 0, 2, "a=1"), [0, 2, 3, 1])
        self.assertEqual(ask_one(deck, "advise", 0, 2, "a=1", [0, 1]), [0, 1, 2, 3, 2, 3])
        self.assertEqual(ask_one(deck, "advise", 0, 2, "a=1", [1, 0]), [0, 0, 1, 3, 2, 3])
        deck = {"a": 1, "b": 1, "c": 2}
        self.assertEqual(ask_one(deck, "best", 3, 1, 1, "a=0"), [0, 1, 2, 0, 2])

    def test_always_and_never_true_keep_every_row(self):
        deck = {"a": 2, "b": 9, "c": 9}
        rows = [len(possible_rows(deck, size)) for size in range(7, 0, -1)]
        self.assertEqual(ask_one(deck, "best", 7, 0, 5, "a>=0"), [0, 1, 1] + rows)
        self.assertEqual(ask_one(deck, "best", 7, 0, 5, "a>2"), [0, 0, 1] + rows)

    def test_rows_that_the_deck_can_give_counted_once(self):
        self.assertEqual(ask_one({"a": 50, "b": 50}, "best", 7, 6, 0, "a>=0"), [0, 1, 1, 8])
        self.assertEqual(ask_one({"a": 1, "b": 50}, "best", 7, 6, 0, "a>=0"), [0, 1, 1, 2])
        self.assertEqual(ask_one({"a": 0, "b": 7, "c": 0}, "best", 7, 5, 0, "a>=0"), [0, 1, 1, 1, 1])
        self.assertEqual(ask_one({name: 20 for name in "abcde"}, "best", 7, 6, 5, "a>=0"), [0, 1, 1, 330])

    def test_counts_from_h_down_to_least_and_1(self):
        self.assertEqual(ask_one({"a": 9}, "best", 7, 4, 0, "a>=0"), [0, 1, 1, 1, 1, 1])
        self.assertEqual(ask_one({"a": 20, "b": 20}, "best", 4, 1, 0, "a>=0"), [0, 1, 1, 5, 4, 3])
        for least in range(8):
            self.assertEqual(len(ask_one(BIG, "best", 7, least, 2, "a>=2")), 3 + 7 - least)

    def test_least_equal_to_h_is_after_without_counts(self):
        for h in range(8):
            found = ask_deck(BIG, ("best", h, h, 5, "b>=2"), ("after", h, 5, "b>=2"))
            self.assertEqual(found[0], found[1], h)

    def test_no_way_to_keep_is_better(self):
        # All ways to keep hands of a small deck by their rows.
        deck = {"a": 2, "b": 1, "c": 1}
        for text in ("a=1", "a=1&b=0|c=1&b=1", "b=1|a=2"):
            for d in (0, 1):
                listing = Listing(deck, d, text)
                rows = possible_rows(deck, 2) + possible_rows(deck, 1)
                chances = [listing.chance(2, 0, lambda hand: listed_row(deck, hand) in kept)
                           for size in range(len(rows) + 1) for kept in itertools.combinations(rows, size)]
                self.assertEqual(ask_one(deck, "best", 2, 0, d, text)[:3], told(max(chances)))

    def test_advise_says_the_same(self):
        text = "a>=2&b>=1|c+d>=8"
        for d in (0, 2):
            best = ask_one(BIG, "best", 4, 2, d, text)
            rows = [row for size in (4, 3) for row in possible_rows({name: 4 for name in BIG}, size)]
            advised = ask_deck(BIG, *[("advise", 2, d, text, row) for row in rows])
            kept = [row for row, part in zip(rows, advised) if part[1] == 1]
            self.assertEqual([len([row for row in kept if sum(row) == size]) for size in (4, 3)], best[3:])
            self.assertEqual({tuple(part[4:]) for row, part in zip(rows, advised) if sum(row) == 4},
                             {tuple(ask_one(BIG, "best", 3, 2, d, text)[1:3])})

    def test_best_is_at_least_what_keep_has(self):
        for text in ("a>=2", "a=1&b=2", "!c=0&d<3"):
            best = ask_one(BIG, "best", 7, 3, 3, text)
            for keeping in ("a>=0", "a>7", "a>=1", "a=2|b=1", "c>=1"):
                part = ask_one(BIG, "keep", 7, 3, 3, keeping, text)
                self.assertLessEqual(Fraction(part[1], part[2]), Fraction(best[1], best[2]))

    def test_just_enough_cards_and_one_less(self):
        self.assertEqual(ask_one({"a": 5, "b": 7}, "best", 7, 6, 5, "a=5&b=7"), [0, 1, 1, 6])
        self.assertEqual(ask_one({"a": 5, "b": 6}, "best", 7, 6, 5, "a=5"), [-7])
        self.assertEqual(ask_one({"a": 0}, "best", 0, 0, 0, "a=0"), [0, 1, 1])
        self.assertEqual(ask_one({"a": 0}, "best", 1, 0, 0, "a=0"), [-7])

    def test_refusals(self):
        for h, least, d in ((-1, 0, 0), (8, 0, 0), (3, -1, 0), (3, 4, 0), (7, 8, 0), (3, 0, -1), (3, 0, 6), (0, 1, 0),
                            (FAR, 0, 0), (-FAR, -FAR, 0), (1, FAR, 0), (1, -FAR, 0), (1, 0, FAR), (1, 0, -FAR)):
            found = ask_deck({"a": 20}, ("best", h, least, d, "a=1"), ("deck",))
            self.assertEqual(found, [[-1], [0, 20, 20]], (h, least, d))
        for text in ("", "$", "a", "b=1", "a=1" + " " * 998):
            self.assertEqual(ask_deck({"a": 20}, ("best", 3, 0, 0, text), ("deck",)), [[-2], [0, 20, 20]], text)
        self.assertEqual(ask_deck({"a": 3}, ("best", 3, 0, 1, "a=1"), ("deck",)), [[-7], [0, 3, 3]])

    def test_nearest_refusal_to_0_is_answered(self):
        deck = {"a": 2}
        self.assertEqual(ask_one(deck, "best", 1, 2, 0, "$"), [-1])
        self.assertEqual(ask_one(deck, "best", 7, 0, 6, "a=1"), [-1])
        self.assertEqual(ask_one(deck, "best", 2, 0, 1, "$"), [-2])


class AdviseTest(unittest.TestCase):
    def test_by_hand(self):
        deck = {"a": 1, "b": 3}
        self.assertEqual(ask_one(deck, "advise", 1, 0, "a=1", [1, 1]), [0, 1, 1, 1, 1, 4])
        self.assertEqual(ask_one(deck, "advise", 1, 0, "a=1", [0, 2]), [0, 0, 0, 1, 1, 4])
        self.assertEqual(ask_one(deck, "advise", 1, 2, "a=1", [0, 2]), [0, 1, 1, 1, 3, 4])

    def test_given_back_down_to_least(self):
        found = ask_deck(BIG, ("advise", 3, 2, "a=2", [0, 3, 2, 1, 1]), ("best", 6, 3, 2, "a=2"),
                         ("given", 7, 2, "a=0&b=3&c=2&d=1", "a=2"))
        self.assertEqual(found[0][2:], found[2][1:] + found[1][1:3])

    def test_rows_of_least_and_one_more(self):
        deck = {"a": 5, "b": 5}
        found = ask_deck(deck, ("advise", 2, 0, "a=1", [1, 1]), ("advise", 2, 0, "a=1", [1, 2]), ("deck",))
        self.assertEqual(found, [[-1], [0, 1, 1, 1, 5, 9], [0, 10, 5, 5]])
        self.assertEqual(ask_one(deck, "advise", 0, 0, "a=0", [0, 0]), [-1])
        self.assertEqual(ask_one(deck, "advise", 0, 0, "a=0", [0, 1]), [0, 1, 1, 1, 1, 1])
        self.assertEqual(ask_one(deck, "advise", 3, 0, "a=0", [1, 0]), [-1])

    def test_rows_of_7_and_8(self):
        deck = {"a": 9, "b": 9}
        self.assertEqual(ask_one(deck, "advise", 6, 5, "a>=0", [3, 4]), [0, 1, 1, 1, 1, 1])
        self.assertEqual(ask_one(deck, "advise", 6, 5, "a>=0", [4, 4]), [-1])
        self.assertEqual(ask_one(deck, "advise", 7, 5, "a>=0", [3, 4]), [-1])
        self.assertEqual(ask_one(deck, "advise", 7, 5, "a>=0", [4, 4]), [-1])

    def test_just_enough_cards_and_one_less(self):
        self.assertEqual(ask_one({"a": 5, "b": 7}, "advise", 6, 5, "a=5&b=7", [3, 4]), [0, 1, 1, 1, 0, 1])
        self.assertEqual(ask_deck({"a": 5, "b": 6}, ("advise", 6, 5, "a=5", [3, 4]), ("deck",)), [[-7], [0, 11, 5, 6]])
        self.assertEqual(ask_one({"a": 1}, "advise", 0, 0, "a=1", [1]), [0, 1, 1, 1, 0, 1])
        self.assertEqual(ask_one({"a": 1}, "advise", 0, 1, "a=1", [1]), [-7])

    def test_refusals(self):
        deck = {"a": 3, "b": 4}
        for least, d, row in ((-1, 0, [1, 1]), (8, 0, [3, 4]), (0, -1, [1, 1]), (0, 6, [1, 1]), (FAR, 0, [1, 1]),
                              (-FAR, 0, [1, 1]), (0, FAR, [1, 1]), (0, -FAR, [1, 1]), (0, 0, []), (0, 0, [1]),
                              (0, 0, [1, 1, 0]), (0, 0, [4, 0]), (0, 0, [0, 5]), (0, 0, [-1, 3]), (0, 0, [3, -1]),
                              (0, 0, [FAR, 0]), (0, 0, [FAR, -FAR]), (0, 0, [1] * 2000)):
            found = ask_deck(deck, ("advise", least, d, "a=1", row), ("deck",))
            self.assertEqual(found, [[-1], [0, 7, 3, 4]], (least, d, row))
        for text in ("", "$", "a", "c=1", "a=1" + " " * 998):
            self.assertEqual(ask_deck(deck, ("advise", 0, 0, text, [1, 1]), ("deck",)), [[-2], [0, 7, 3, 4]], text)

    def test_nearest_refusal_to_0_is_answered(self):
        deck = {"a": 3, "b": 4}
        self.assertEqual(ask_one(deck, "advise", 8, 0, "$", [1, 1]), [-1])
        self.assertEqual(ask_one(deck, "advise", 0, 0, "$", [1]), [-1])
        self.assertEqual(ask_one(deck, "advise", 2, 0, "$", [1, 1]), [-1])
        self.assertEqual(ask_one(deck, "advise", 0, 6, "a=1", [3, 4]), [-1])
        self.assertEqual(ask_one(deck, "advise", 0, 1, "$", [3, 4]), [-2])
        self.assertEqual(ask(("advise", 0, 0, "a=1", [])), [[-1]])


if __name__ == "__main__":
    unittest.main()
