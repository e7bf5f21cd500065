"""Made-up lines of all twenty calls, answered in a second way: a small deck, all hands of which are listed."""

import random
import re
import unittest

import helper
from deckodds.desk import answers
from helper import FAR, NAMES, Wrong, flat, holds, oracle, size, split, told, words

PARTS = {"kind": "nN", "count": "kn", "read": "t", "form": "t", "true": "tr", "hand": "ht", "after": "hdt",
         "given": "hdtt", "first": "hdt", "mean": "hk", "spread": "hk", "keep": "hldtt", "best": "hldt", "advise": "ldtr",
         "nth": "hi", "number": "c", "deal": "sh", "least": "kkhdpqt", "compare": "hdtt", "deck": ""}
SHORT = ("a>=1", "a=1", "b>=1", "a+b=2", "!a=0", "a=1&b=0", "a=0|c=1", "c>=1&!(a=1|b=1)", " a + a > 1 ", "d=0", "a<=1&a>=1",
         "b=2|b=0", "c<2", "a>=0", "a>1000")
WRONG = ("", "$", "a", "a=1&", "x=1", "(a=1", "a=01", "a=1001", "a=1" + " " * 998)


class Refused(Exception):
    pass


class SecondDesk:
    """A deck of {name: count}; each call by its name, with what's wrong told in the order of the refusals."""

    def __init__(self):
        self.deck = {}

    def answer(self, call):
        try:
            return getattr(self, "call_" + call[0])(*call[1:])
        except Refused as refusal:
            return [refusal.args[0]]

    def need(self, is_right, number):
        if not is_right:
            raise Refused(number)

    def all_cards(self):
        return sum(self.deck.values())

    def need_kind(self, kind):
        self.need(0 <= kind < len(self.deck), -1)

    def need_texts(self, *texts):
        for text in texts:
            try:
                oracle(text, self.deck)
            except Wrong:
                raise Refused(-2) from None

    def need_hand(self, h, d, *texts):
        self.need(h in range(8) and d in range(6), -1)
        self.need_texts(*texts)
        self.need(h + d <= self.all_cards(), -7)

    def call_kind(self, n, name):
        self.need(n in range(101) and re.fullmatch("[a-z]{1,8}", name), -1)
        self.need(len(self.deck) < 5 and self.all_cards() + n <= 100, -4)
        self.need(name not in self.deck, -5)
        self.deck[name] = n
        return [0, len(self.deck) - 1]

    def call_count(self, kind, n):
        self.need_kind(kind)
        self.need(n in range(101), -1)
        name = list(self.deck)[kind]
        self.need(self.all_cards() - self.deck[name] + n <= 100, -4)
        self.deck[name] = n
        return [0, self.all_cards()]

    def call_read(self, text):
        try:
            return [1, size(oracle(text, self.deck))]
        except Wrong as wrong:
            return [0, wrong.args[0]]

    def call_form(self, text):
        self.need_texts(text)
        return [0] + list(words(oracle(text, self.deck)).encode())

    def need_row(self, row):
        self.need(len(row) == len(self.deck), -1)
        self.need(all(0 <= number <= count for number, count in zip(row, self.deck.values())), -1)

    def call_true(self, text, row):
        self.need_row(row)
        self.need_texts(text)
        hand = [name for name, number in zip(self.deck, row) for card in range(number)]
        return [0, int(holds(oracle(text, self.deck), hand))]

    def call_hand(self, h, text):
        return self.call_after(h, 0, text)

    def call_after(self, h, d, text):
        self.need_hand(h, d, text)
        return helper.listed_after(self.deck, h, d, text)

    def call_given(self, h, d, text_a, text_b):
        self.need_hand(h, d, text_a, text_b)
        return helper.listed_given(self.deck, h, d, text_a, text_b)

    def call_first(self, h, d, text):
        self.need_hand(h, d, text)
        return helper.listed_first(self.deck, h, d, text)

    def call_mean(self, h, kind):
        self.need_kind(kind)
        self.need_hand(h, 0)
        self.need(self.all_cards() > 0, -7)
        name = list(self.deck)[kind]
        numbers = [hand.count(name) for hand, draws in helper.listed_hands(self.deck, h, 0)]
        return told(helper.Fraction(sum(numbers), len(numbers)))

    def call_spread(self, h, kind):
        self.need_kind(kind)
        self.need_hand(h, 0)
        self.need(self.all_cards() > 1, -7)
        return helper.listed_spread(self.deck, h, kind)

    def call_keep(self, h, least, d, text_a, text_b):
        self.need(0 <= least <= h, -1)
        self.need_hand(h, d, text_a, text_b)
        return helper.listed_keep(self.deck, h, least, d, text_a, text_b)

    def call_best(self, h, least, d, text):
        self.need(0 <= least <= h, -1)
        self.need_hand(h, d, text)
        return helper.listed_best(self.deck, h, least, d, text)

    def call_advise(self, least, d, text, row):
        self.need_row(row)
        self.need(0 <= least < sum(row) <= 7, -1)
        self.need_hand(sum(row), d, text)
        return helper.listed_advise(self.deck, least, d, text, row)

    def call_nth(self, h, i):
        self.need(0 <= i <= FAR, -1)
        self.need_hand(h, 0)
        return helper.listed_nth(self.deck, h, i)

    def call_number(self, row):
        self.need(len(row) <= 7 and row == sorted(set(row)), -1)
        self.need(all(0 <= card < self.all_cards() for card in row), -1)
        return helper.listed_number(self.deck, row)

    def call_deal(self, seed, h):
        self.need(0 <= seed <= FAR, -1)
        self.need_hand(h, 0)
        return helper.listed_deal(self.deck, seed, h)

    def call_least(self, a, b, h, d, p, q, text):
        self.need_kind(a)
        self.need_kind(b)
        self.need(a != b and 1 <= q <= 1000000000 and 0 <= p <= q, -1)
        self.need_hand(h, d, text)
        return helper.listed_least(self.deck, a, b, h, d, p, q, text)

    def call_compare(self, h, d, text_a, text_b):
        self.need_hand(h, d, text_a, text_b)
        return helper.listed_compare(self.deck, h, d, text_a, text_b)

    def call_deck(self):
        return [0, self.all_cards(), *self.deck.values()]


def seldom(source, ordinary, odd, times=12):
    return source.choice(odd) if source.randrange(times) == 0 else ordinary


def made_part(source, part, deck):
    """A number, text or row of a call, mostly one that the deck can answer."""
    all_cards = sum(deck.values())
    if part == "n":
        return seldom(source, source.randrange(4), (-1, 4, 101, FAR, 98, 100), 25)
    if part == "N":
        return seldom(source, "abcdea"[len(deck)], ("", "A", "abcdefghi", "a b", "a", "e", "long"))
    if part == "k":
        return seldom(source, source.randrange(max(1, len(deck))), (-1, 5, -FAR, len(deck)))
    if part == "t":
        told_of = [text for text in SHORT if set(re.findall("[a-z]", text)) <= set(deck)]
        return seldom(source, source.choice(told_of or SHORT), WRONG + SHORT, 20)
    if part == "r":
        row = [source.randrange(count + 1) for count in deck.values()]
        return seldom(source, row, (row[:-1], row + [0], [number + 1 for number in row], [-1] * len(row)))
    if part == "h":
        return seldom(source, source.randrange(5), (-1, 5, 6, 7, 8, FAR))
    if part == "d":
        return seldom(source, source.randrange(3), (-1, 3, 4, 5, 6, -FAR))
    if part == "l":
        return seldom(source, source.choice((0, 0, 0, 1, 1, 2)), (-1, 3, 4, 7, 8, FAR))
    if part == "i":
        return seldom(source, source.randrange(8), (-1, 20, 34, 35, 70, FAR))
    if part == "c":
        row = sorted(source.sample(range(all_cards), source.randrange(min(7, all_cards) + 1)))
        return seldom(source, row, (row[::-1], row + [all_cards], row + row[-1:], [-1] + row, list(range(8))))
    if part == "s":
        return seldom(source, source.randrange(1000), (-1, 0, FAR, FAR - 1, -FAR))
    if part == "p":
        return seldom(source, source.randrange(5), (-1, 0, 999999999, 1000000000, FAR))
    return seldom(source, source.randrange(4, 9), (-1, 0, 1, 1000000000, 1000000001, FAR))


def made_call(source, deck):
    name = source.choice(NAMES) if len(deck) > 1 or source.randrange(3) == 0 else "kind"
    return (name, *[made_part(source, part, deck) for part in PARTS[name]])


class WholeLineTest(unittest.TestCase):
    def made_line(self, source, length):
        """Calls and their answers in the second way, on a deck that stays small."""
        desk = SecondDesk()
        calls = []
        expected = []
        while len(calls) < length:
            call = made_call(source, desk.deck)
            calls.append(call)
            expected.append(desk.answer(call))
            # All hands of a large deck can't be listed.
            while desk.all_cards() > 8:
                kind = max(range(len(desk.deck)), key=lambda kind: list(desk.deck.values())[kind])
                calls.append(("count", kind, source.randrange(3)))
                expected.append(desk.answer(calls[-1]))
        return calls, expected

    def test_calls_have_their_parts(self):
        self.assertEqual(tuple(PARTS), NAMES)

    def test_lines(self):
        source = random.Random(6)
        answered = set()
        for turn in range(60):
            calls, expected = self.made_line(source, source.choice((1, 5, 40, 100)))
            line = flat(calls)
            before = list(line)
            found = answers(line)
            self.assertEqual(line, before)
            self.assertEqual(len(split(found)), len(expected))
            for call, one, other in zip(calls, split(found), expected):
                self.assertEqual(one, other, (call, calls))
                answered.add((call[0], min(one[0], 0)))
            self.assertEqual(answers(line), found)
        # Every call has been answered, and refused if it can be.
        for name in NAMES:
            self.assertIn((name, 0), answered)
            if name not in ("read", "deck"):
                self.assertTrue([number for other, number in answered if other == name and number < 0], name)

    def test_a_line_of_400_calls(self):
        calls, expected = self.made_line(random.Random(7), 380)
        calls = calls[:400]
        self.assertLessEqual(len(flat(calls)), 17000)
        self.assertEqual(split(answers(flat(calls))), expected[:400])


if __name__ == "__main__":
    unittest.main()
