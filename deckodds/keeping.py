"""Hands that are kept, or given back for a hand with one card less."""

from deckodds.chances import all_draws, all_hands, chance, draws_to, fraction, hand_ways, sum_where
from deckodds.truth import truths


# The chance that's had if hands of so many cards are kept where told, and else given back for the chance behind.
# draws tells of each row in how many of all orders of cards drawn it comes true.
def chance_kept_where(deck, total, kept, draws, orders, behind):
    ways = hand_ways(deck, total)
    hands = all_hands(deck, total)
    right = sum_where([way * draw for way, draw in zip(ways, draws)], kept)
    back = hands - sum_where(ways, kept)
    return fraction(right * behind[1] + back * orders * behind[0], hands * orders * behind[1])


def keep_chance(deck, h, least, d, keeping, asked):
    behind = chance(deck, least + d, asked)
    for total in range(least + 1, h + 1):
        kept = truths(keeping, deck.book.rows(total).columns)
        draws = draws_to(deck, total, d, asked)
        behind = chance_kept_where(deck, total, kept, draws, all_draws(deck, total, d), behind)
    return behind


def is_best_kept(draws, orders, behind):
    return draws * behind[1] >= behind[0] * orders


# The greatest chance, and of how many rows a hand is best kept: for h cards first, down to least + 1.
def best_chance(deck, h, least, d, asked):
    behind = chance(deck, least + d, asked)
    numbers = []
    for total in range(least + 1, h + 1):
        draws = draws_to(deck, total, d, asked)
        orders = all_draws(deck, total, d)
        kept = [is_best_kept(number, orders, behind) for number in draws]
        numbers.append(rows_kept(deck, total, kept))
        behind = chance_kept_where(deck, total, kept, draws, orders, behind)
    return (behind, list(reversed(numbers)))


# Of the rows that are kept, how many the deck can give.
def rows_kept(deck, total, kept):
    return len([way for way, is_kept in zip(hand_ways(deck, total), kept) if is_kept and way > 0])


# Whether a hand with that row is best kept, the chance once it's kept, the greatest once it's given back.
def advice(deck, row, least, d, asked):
    total = sum(row)
    behind = best_chance(deck, total - 1, least, d, asked)[0]
    draws = draws_to(deck, total, d, asked)[deck.book.rows(total).places[tuple(row)]]
    orders = all_draws(deck, total, d)
    return [1 if is_best_kept(draws, orders, behind) else 0] + fraction(draws, orders) + behind
