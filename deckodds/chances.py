"""Chances of hands and draws, as fractions.

Rows of so many cards are counted together, in lists with a number for each row in the order of the deck's book: in how
many ways the deck gives it as a hand, or in how many orders of cards drawn something comes of it.
"""

from deckodds.refusals import NoneSuch
from deckodds.truth import truths


# Both numbers in lowest terms.
def fraction(part, whole):
    divisor = whole
    rest = part
    while rest > 0:
        remainder = divisor % rest
        divisor = rest
        rest = remainder
    return [part // divisor, whole // divisor]


# 0 if the one fraction is less than the other, 1 if they are the same, 2 if it's more.
def order(one, other):
    left = one[0] * other[1]
    right = other[0] * one[1]
    if left < right:
        return 0
    return 1 if left == right else 2


# In how many ways 0, 1 and so on up to most of these cards can be taken.
def choices(cards, most):
    ways = [1]
    for taken in range(most):
        ways.append(ways[taken] * (cards - taken) // (taken + 1))
    return ways


def all_hands(deck, h):
    return choices(deck.cards(), h)[h]


# In how many orders d cards can be drawn behind a hand of h.
def all_draws(deck, h, d):
    orders = 1
    for draw in range(d):
        orders *= deck.cards() - h - draw
    return orders


# For each row in how many ways the cards of these kinds alone can be taken.
def ways_of_kinds(rows, counts, kinds):
    found = [1 for row in rows.listed]
    for kind in kinds:
        ways = choices(counts[kind], rows.total)
        found = [number * ways[taken] for number, taken in zip(found, rows.columns[kind])]
    return found


# For each row how many hands have it: 0 if the deck can't give it.
def hand_ways(deck, h):
    return ways_of_kinds(deck.book.rows(h), deck.counts, list(range(len(deck.counts))))


def sum_where(numbers, truth):
    return sum([number for number, is_true in zip(numbers, truth) if is_true])


# How many cards of a kind are there still, by how many a row of so many cards has.
def lefts(count, total):
    return [max(0, count - taken) for taken in range(total + 1)]


# From what comes of each row of one card more, what comes of each row of so many cards by one draw.
def before_draw(deck, total, later):
    columns = deck.book.rows(total).columns
    found = [0 for row in deck.book.rows(total).listed]
    for kind, places in enumerate(deck.book.steps_from(total)):
        left = lefts(deck.counts[kind], total)
        found = [number + left[taken] * later[place] for number, taken, place in zip(found, columns[kind], places)]
    return found


# From the ways to each row of so many cards, those to each row of one card more by one draw.
def behind_draw(deck, total, ways):
    columns = deck.book.rows(total).columns
    found = [0 for row in deck.book.rows(total + 1).listed]
    for kind, places in enumerate(deck.book.steps_from(total)):
        left = lefts(deck.counts[kind], total)
        for number, taken, place in zip(ways, columns[kind], places):
            found[place] += number * left[taken]
    return found


# For each row of h cards, in how many orders of d cards drawn the condition is true of all.
def draws_to(deck, h, d, condition):
    found = [1 if truth else 0 for truth in truths(condition, deck.book.rows(h + d).columns)]
    for draw in range(d):
        found = before_draw(deck, h + d - 1 - draw, found)
    return found


# A hand and what's drawn behind it are together as likely as any hand of so many cards.
def chance(deck, total, condition):
    truth = truths(condition, deck.book.rows(total).columns)
    return fraction(sum_where(hand_ways(deck, total), truth), all_hands(deck, total))


def chance_given(deck, h, d, known, asked):
    truth = truths(known, deck.book.rows(h).columns)
    ways = hand_ways(deck, h)
    hands = sum_where(ways, truth)
    if hands == 0:
        raise NoneSuch()
    right = [way * draws for way, draws in zip(ways, draws_to(deck, h, d, asked))]
    return fraction(sum_where(right, truth), hands * all_draws(deck, h, d))


def first_chances(deck, h, d, condition):
    ways = hand_ways(deck, h)
    whole = all_hands(deck, h)
    found = []
    for draws in range(d + 1):
        if draws > 0:
            ways = behind_draw(deck, h + draws - 1, ways)
            whole *= deck.cards() - h - draws + 1
        truth = truths(condition, deck.book.rows(h + draws).columns)
        found.extend(fraction(sum_where(ways, truth), whole))
        ways = [0 if is_true else way for way, is_true in zip(ways, truth)]
    return found


# The mean square of how far the number of a kind's cards in a hand is from its mean. It would be h times the kind's
# share of the deck times the others' share, but cards aren't put back: so it's less by (cards - h) / (cards - 1).
def spread(deck, h, kind):
    cards = deck.cards()
    count = deck.counts[kind]
    return fraction(h * count * (cards - count) * (cards - h), cards * cards * (cards - 1))


# The least number of cards to change from kind b to kind a for a chance of at least the goal, and that chance. Each
# number is tried in turn: with more cards changed the chance may fall again.
def least_change(deck, a, b, total, goal, condition):
    whole = all_hands(deck, total)
    shares = true_shares(deck, a, b, total, condition)
    for n in range(deck.counts[b] + 1):
        ways_a = choices(deck.counts[a] + n, total)
        ways_b = choices(deck.counts[b] - n, total)
        part = sum([ways * ways_a[of_a] * ways_b[of_b] for of_a, of_b, ways in shares])
        if part * goal[1] >= goal[0] * whole:
            return [n] + fraction(part, whole)
    raise NoneSuch()


# How many cards of a and of b the rows have of which the condition is true, and in how many ways the other kinds'
# cards can be taken then: these are the same for every change.
def true_shares(deck, a, b, total, condition):
    rows = deck.book.rows(total)
    others = [kind for kind in range(len(deck.counts)) if kind not in (a, b)]
    found = {}
    for row, ways, truth in zip(rows.listed, ways_of_kinds(rows, deck.counts, others), truths(condition, rows.columns)):
        if truth:
            share = (row[a], row[b])
            found[share] = found.get(share, 0) + ways
    return [(share[0], share[1], ways) for share, ways in found.items()]
