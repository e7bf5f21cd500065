"""The deck: its kinds and how many cards each has."""

from deckodds.refusals import NameTaken, NoPlace, TooFewCards
from deckodds.rows import Book

MOST_KINDS = 5
MOST_CARDS = 100


# Kinds by their numbers, each with a name and a count; the book has the rows of so many kinds.
class Deck:
    def __init__(self):
        self.names = []
        self.counts = []
        self.book = Book(0)

    def cards(self):
        return sum(self.counts)

    def add_kind(self, name, count):
        if len(self.names) == MOST_KINDS or self.cards() + count > MOST_CARDS:
            raise NoPlace()
        if name in self.names:
            raise NameTaken()
        self.names.append(name)
        self.counts.append(count)
        self.book = Book(len(self.names))

    def set_count(self, kind, count):
        if self.cards() - self.counts[kind] + count > MOST_CARDS:
            raise NoPlace()
        self.counts[kind] = count

    def need_cards(self, cards):
        if self.cards() < cards:
            raise TooFewCards()

    # The row of a hand that's told card by card.
    def row_of(self, hand):
        row = []
        start = 0
        for count in self.counts:
            row.append(len([card for card in hand if start <= card < start + count]))
            start += count
        return row
