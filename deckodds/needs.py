"""What the numbers and rows of a call must be; whatever isn't so is out of range."""

from deckodds.refusals import OutOfRange

MOST_IN_HAND = 7
MOST_DRAWN = 5


def need_between(number, lowest, most):
    if not lowest <= number <= most:
        raise OutOfRange()


def need_range(number, most):
    need_between(number, 0, most)


def need_hand(h):
    need_range(h, MOST_IN_HAND)


def need_draw(d):
    need_range(d, MOST_DRAWN)


def need_least(least, h):
    need_range(least, min(MOST_IN_HAND, h))


def need_kind(deck, kind):
    need_range(kind, len(deck.counts) - 1)


def need_two_kinds(deck, a, b):
    need_kind(deck, a)
    need_kind(deck, b)
    if a == b:
        raise OutOfRange()


def need_row(deck, numbers):
    if len(numbers) != len(deck.counts):
        raise OutOfRange()
    for number, count in zip(numbers, deck.counts):
        need_range(number, count)


# Cards of the deck by their numbers, each greater than the one before.
def need_cards_in_order(deck, numbers):
    need_hand(len(numbers))
    lowest = 0
    for number in numbers:
        need_between(number, lowest, deck.cards() - 1)
        lowest = number + 1
