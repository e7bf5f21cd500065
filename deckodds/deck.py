"""The deck: its kinds and how many cards each has."""

from deckodds.refusals import NameTaken, NoPlace, TooFewCards

MOST_KINDS = 5
MOST_CARDS = 100


# Kinds by their numbers, each with a name and a count.
class Deck:
    def __init__(self):
        self.names = []
        self.counts = []

    def cards(self):
        return sum(self.counts)

    def add_kind(self, name, count):
        if len(self.names) == MOST_KINDS or self.cards() + count > MOST_CARDS:
            raise NoPlace()
        if name in self.names:
            raise NameTaken()
        self.names.append(name)
        self.counts.append(count)

    def set_count(self, kind, count):
        if self.cards() - self.counts[kind] + count > MOST_CARDS:
            raise NoPlace()
        self.counts[kind] = count

    def need_cards(self, cards):
        if self.cards() < cards:
            raise TooFewCards()
