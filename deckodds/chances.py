"""Chances of hands and draws, as fractions.

Weights are a dict: for each row how many hands, or hands and draws behind them, lead to it.
"""

from deckodds.refusals import NoneSuch
from deckodds.truth import truths


# Both numbers in lowest terms.
def fraction(part, whole):
    divisor = whole
    rest = part
    while rest > 0:
        remainder = divisor % rest
        divisor = rest
        rest = remainder
    return [part // divisor, whole // divisor]


# In how many ways 0, 1 and so on up to most of these cards can be taken.
def choices(cards, most):
    ways = [1]
    for taken in range(most):
        ways.append(ways[taken] * (cards - taken) // (taken + 1))
    return ways


# The weights of hands of so many cards; the deck has as many at least.
def hands(counts, cards):
    begun = [((), cards, 1)]
    behind = sum(counts)
    for count in counts:
        behind -= count
        begun = with_next_kind(begun, choices(count, cards), count, behind)
    return dict([(row, ways) for row, left, ways in begun])


# Each row that's begun, taken on by one kind; behind is how many cards the kinds behind it have.
def with_next_kind(begun, ways_of_kind, count, behind):
    longer = []
    for row, left, ways in begun:
        # Fewer couldn't be made up for by the kinds behind.
        for taken in range(max(0, left - behind), min(count, left) + 1):
            longer.append((row + (taken,), left - taken, ways * ways_of_kind[taken]))
    return longer


# The weights behind one more draw.
def drawn(weights, counts):
    found = {}
    for row, weight in weights.items():
        for kind, count in enumerate(counts):
            left = count - row[kind]
            if left > 0:
                more = row[:kind] + (row[kind] + 1,) + row[kind + 1:]
                found[more] = found.get(more, 0) + weight * left
    return found


# The weights of the rows alone of which the condition is true (or, if wanted is False, isn't).
def where(weights, condition, wanted):
    rows = list(weights)
    found = {}
    for row, truth in zip(rows, truths(condition, rows)):
        if truth == wanted:
            found[row] = weights[row]
    return found


def chance(counts, cards, condition):
    weights = hands(counts, cards)
    return fraction(sum(where(weights, condition, True).values()), sum(weights.values()))


def chance_given(counts, h, d, known, asked):
    weights = where(hands(counts, h), known, True)
    if len(weights) == 0:
        raise NoneSuch()
    for draw in range(d):
        weights = drawn(weights, counts)
    return fraction(sum(where(weights, asked, True).values()), sum(weights.values()))


def first_chances(counts, h, d, condition):
    weights = hands(counts, h)
    whole = sum(weights.values())
    found = []
    for draws in range(d + 1):
        if draws > 0:
            weights = drawn(weights, counts)
            whole *= sum(counts) - h - draws + 1
        before = sum(weights.values())
        weights = where(weights, condition, False)
        found.extend(fraction(before - sum(weights.values()), whole))
    return found
