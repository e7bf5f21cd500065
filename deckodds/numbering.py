"""Hands by their numbers.

All hands of h cards stand in a row, each as its cards' numbers, the least first, in the order of the first number in
which two differ.
"""

from deckodds.chances import choices

FACTOR = 6364136223846793005
SUMMAND = 1442695040888963407
MODULUS = 18446744073709551616


# How many hands have that card as their next one, with so many more behind it.
def hands_with_next(all_cards, card, more):
    return choices(all_cards - card - 1, more)[more]


# The cards of a hand of h; there are more than number hands.
def hand_at(all_cards, h, number):
    hand = []
    card = 0
    left = number
    while len(hand) < h:
        hands = hands_with_next(all_cards, card, h - len(hand) - 1)
        if left < hands:
            hand.append(card)
        else:
            left -= hands
        card += 1
    return hand


def number_of(all_cards, hand):
    number = 0
    passed = 0
    for place, card in enumerate(hand):
        for other in range(passed, card):
            number += hands_with_next(all_cards, other, len(hand) - place - 1)
        passed = card + 1
    return number


def scrambled(seed):
    return (seed * FACTOR + SUMMAND) % MODULUS
