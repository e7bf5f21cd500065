"""Many made-up texts, read, formed and asked in a second way."""

import random
import unittest

from helper import Wrong, ask_deck, holds, listed_after, listed_first, listed_given, oracle, size, words

DECK = {"a": 2, "b": 3, "cd": 1}
PIECES = ["a", "b", "cd", "c", "ab", ">=", "<=", "=", ">", "<", "0", "1", "2", "3", "10", "1000", "1001", "00", "(", ")",
          "!", "&", "|", "+", " ", "  ", "$", "A", "\x00", "\xff"]


def made_condition(source, depth):
    choice = source.randrange(6) if depth > 0 else 0
    if choice <= 1:
        names = [source.choice(list(DECK)) for name in range(source.choice((1, 1, 1, 2, 3)))]
        sign = source.choice((">=", "<=", "=", ">", "<"))
        return spaced(source, [piece for name in names for piece in ("+", name)][1:] + [sign, str(source.randrange(5))])
    inner = [made_condition(source, depth - 1) for part in range(source.randrange(1, 4))]
    if choice == 2:
        return spaced(source, ["!", "(", inner[0], ")"])
    if choice == 3:
        return spaced(source, ["(", inner[0], ")"])
    sign = "&" if choice == 4 else "|"
    return spaced(source, [piece for part in inner for piece in (sign, "(" + part + ")")][1:])


def spaced(source, pieces):
    return "".join(piece + " " * source.choice((0, 0, 0, 1, 2)) for piece in pieces)


def spoiled(source, text):
    """The text with a piece put in, taken out or put elsewhere."""
    place = source.randrange(len(text) + 1)
    choice = source.randrange(3)
    if choice == 0:
        return text[:place] + source.choice(PIECES) + text[place:]
    if choice == 1:
        return text[:place] + text[place + 1:]
    return text[:place] + source.choice(PIECES) + text[place + 1:]


class SecondWayTest(unittest.TestCase):
    def check(self, text):
        rows = [[a, b, c] for a in range(3) for b in range(4) for c in range(2)]
        found = ask_deck(DECK, ("read", text), ("form", text), *[("true", text, row) for row in rows])
        try:
            tree = oracle(text, DECK)
        except Wrong as wrong:
            self.assertEqual(found, [[0, wrong.args[0]]] + [[-2]] * (len(rows) + 1), text)
            return False
        self.assertEqual(found[0], [1, size(tree)], text)
        self.assertEqual(found[1], [0] + list(words(tree).encode()), text)
        for row, truth in zip(rows, found[2:]):
            hand = ["a"] * row[0] + ["b"] * row[1] + ["cd"] * row[2]
            self.assertEqual(truth, [0, int(holds(tree, hand))], (text, row))
        return True

    def test_conditions(self):
        source = random.Random(1)
        for turn in range(400):
            text = made_condition(source, 4)
            self.assertEqual(self.check(text), len(text) <= 1000)

    def test_spoiled_conditions(self):
        source = random.Random(2)
        for turn in range(1500):
            text = made_condition(source, 2)
            for time in range(source.randrange(1, 3)):
                text = spoiled(source, text)
            self.check(text)

    def test_rows_of_pieces(self):
        source = random.Random(3)
        for turn in range(3000):
            self.check("".join(source.choice(PIECES) for piece in range(source.randrange(8))))

    def test_the_one_text_reads_as_the_same(self):
        source = random.Random(4)
        for turn in range(200):
            text = made_condition(source, 3)
            tree = oracle(text, DECK)
            self.assertEqual(oracle(words(tree), DECK), tree)

    def test_chances(self):
        source = random.Random(5)
        for turn in range(60):
            deck = {name: source.randrange(4) for name in ("a", "b", "cd", "e", "f")[:source.randrange(3, 6)]}
            if sum(deck.values()) > 7:
                continue
            h = source.randrange(0, 4)
            d = source.randrange(0, 4)
            texts = [made_condition(source, 2) for text in range(2)]
            found = ask_deck(deck, ("after", h, d, texts[0]), ("given", h, d, texts[0], texts[1]),
                             ("first", h, d, texts[0]))
            if sum(deck.values()) < h + d:
                self.assertEqual(found, [[-7]] * 3)
            else:
                self.assertEqual(found, [listed_after(deck, h, d, texts[0]),
                                         listed_given(deck, h, d, texts[0], texts[1]),
                                         listed_first(deck, h, d, texts[0])], (deck, h, d, texts))


if __name__ == "__main__":
    unittest.main()
