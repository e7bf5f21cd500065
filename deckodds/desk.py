"""The calls on a deck, as one list of whole numbers, and their answers."""

from deckodds.chances import all_hands, chance, chance_given, first_chances, fraction, least_change, order, spread
from deckodds.deck import MOST_CARDS, Deck
from deckodds.feed import Feed
from deckodds.grammar import read_condition
from deckodds.keeping import advice, best_chance, keep_chance
from deckodds.letters import as_bytes, as_letters, is_name
from deckodds.needs import (
    MOST_IN_HAND,
    need_between,
    need_cards_in_order,
    need_draw,
    need_hand,
    need_kind,
    need_least,
    need_range,
    need_row,
    need_two_kinds,
)
from deckodds.numbering import hand_at, number_of, scrambled
from deckodds.refusals import NoCondition, NoneSuch, OutOfRange, Refusal
from deckodds.truth import truths
from deckodds.wording import one_text

GREATEST_NUMBER = 1000000000000000000
GREATEST_DENOMINATOR = 1000000000


# In each answer below, the refusals are looked for in their order, the nearest to 0 first,
# once all of the call has been taken from the feed.


def answer_kind(deck, feed):
    count = feed.whole_number()
    name = as_letters(feed.row())
    need_range(count, MOST_CARDS)
    if not is_name(name):
        raise OutOfRange()
    deck.add_kind(name, count)
    return [0, len(deck.names) - 1]


def answer_count(deck, feed):
    kind = feed.whole_number()
    count = feed.whole_number()
    need_kind(deck, kind)
    need_range(count, MOST_CARDS)
    deck.set_count(kind, count)
    return [0, deck.cards()]


def answer_read(deck, feed):
    text = feed.row()
    try:
        condition = read_condition(text, deck.names)
    except NoCondition as e:
        return [0, e.place]
    return [1, len(condition)]


def answer_form(deck, feed):
    condition = read_condition(feed.row(), deck.names)
    return [0] + as_bytes(one_text(condition, deck.names))


def answer_true(deck, feed):
    text = feed.row()
    numbers = feed.row()
    need_row(deck, numbers)
    condition = read_condition(text, deck.names)
    return [0, 1 if truths(condition, [[number] for number in numbers])[0] else 0]


def answer_hand(deck, feed):
    h = feed.whole_number()
    text = feed.row()
    return answer_cards(deck, h, 0, text)


def answer_after(deck, feed):
    h = feed.whole_number()
    d = feed.whole_number()
    text = feed.row()
    return answer_cards(deck, h, d, text)


def answer_cards(deck, h, d, text):
    need_hand(h)
    need_draw(d)
    condition = read_condition(text, deck.names)
    deck.need_cards(h + d)
    return [0] + chance(deck, h + d, condition)


def answer_given(deck, feed):
    h = feed.whole_number()
    d = feed.whole_number()
    text_known = feed.row()
    text_asked = feed.row()
    need_hand(h)
    need_draw(d)
    known = read_condition(text_known, deck.names)
    asked = read_condition(text_asked, deck.names)
    deck.need_cards(h + d)
    return [0] + chance_given(deck, h, d, known, asked)


def answer_first(deck, feed):
    h = feed.whole_number()
    d = feed.whole_number()
    text = feed.row()
    need_hand(h)
    need_draw(d)
    condition = read_condition(text, deck.names)
    deck.need_cards(h + d)
    return [0] + first_chances(deck, h, d, condition)


def answer_mean(deck, feed):
    h = feed.whole_number()
    kind = feed.whole_number()
    need_hand(h)
    need_kind(deck, kind)
    # Of no cards there's no mean.
    deck.need_cards(max(h, 1))
    return [0] + fraction(h * deck.counts[kind], deck.cards())


def answer_spread(deck, feed):
    h = feed.whole_number()
    kind = feed.whole_number()
    need_hand(h)
    need_kind(deck, kind)
    deck.need_cards(max(h, 2))
    return [0] + spread(deck, h, kind)


def answer_keep(deck, feed):
    h = feed.whole_number()
    least = feed.whole_number()
    d = feed.whole_number()
    text_keeping = feed.row()
    text_asked = feed.row()
    need_hand(h)
    need_least(least, h)
    need_draw(d)
    keeping = read_condition(text_keeping, deck.names)
    asked = read_condition(text_asked, deck.names)
    deck.need_cards(h + d)
    return [0] + keep_chance(deck, h, least, d, keeping, asked)


def answer_best(deck, feed):
    h = feed.whole_number()
    least = feed.whole_number()
    d = feed.whole_number()
    text = feed.row()
    need_hand(h)
    need_least(least, h)
    need_draw(d)
    asked = read_condition(text, deck.names)
    deck.need_cards(h + d)
    found = best_chance(deck, h, least, d, asked)
    return [0] + found[0] + found[1]


def answer_advise(deck, feed):
    least = feed.whole_number()
    d = feed.whole_number()
    text = feed.row()
    numbers = feed.row()
    need_range(least, MOST_IN_HAND)
    need_draw(d)
    need_row(deck, numbers)
    need_between(sum(numbers), least + 1, MOST_IN_HAND)
    asked = read_condition(text, deck.names)
    deck.need_cards(sum(numbers) + d)
    return [0] + advice(deck, numbers, least, d, asked)


def answer_nth(deck, feed):
    h = feed.whole_number()
    i = feed.whole_number()
    need_hand(h)
    need_range(i, GREATEST_NUMBER)
    deck.need_cards(h)
    if i >= all_hands(deck, h):
        raise NoneSuch()
    return [0] + cards_and_row(deck, h, i)


def cards_and_row(deck, h, number):
    hand = hand_at(deck.cards(), h, number)
    return hand + deck.row_of(hand)


def answer_number(deck, feed):
    hand = feed.row()
    need_cards_in_order(deck, hand)
    return [0, number_of(deck.cards(), hand)]


def answer_deal(deck, feed):
    seed = feed.whole_number()
    h = feed.whole_number()
    need_range(seed, GREATEST_NUMBER)
    need_hand(h)
    deck.need_cards(h)
    x = scrambled(seed)
    return [0, x] + cards_and_row(deck, h, x % all_hands(deck, h))


def answer_least(deck, feed):
    a = feed.whole_number()
    b = feed.whole_number()
    h = feed.whole_number()
    d = feed.whole_number()
    p = feed.whole_number()
    q = feed.whole_number()
    text = feed.row()
    need_two_kinds(deck, a, b)
    need_hand(h)
    need_draw(d)
    need_between(q, 1, GREATEST_DENOMINATOR)
    need_range(p, q)
    condition = read_condition(text, deck.names)
    deck.need_cards(h + d)
    return [0] + least_change(deck, a, b, h + d, (p, q), condition)


def answer_compare(deck, feed):
    h = feed.whole_number()
    d = feed.whole_number()
    text_one = feed.row()
    text_other = feed.row()
    need_hand(h)
    need_draw(d)
    one = read_condition(text_one, deck.names)
    other = read_condition(text_other, deck.names)
    deck.need_cards(h + d)
    return [0, order(chance(deck, h + d, one), chance(deck, h + d, other))]


def answer_deck(deck, feed):
    return [0, deck.cards()] + deck.counts


# By the calls' numbers.
ANSWERS = (
    answer_kind,
    answer_count,
    answer_read,
    answer_form,
    answer_true,
    answer_hand,
    answer_after,
    answer_given,
    answer_first,
    answer_mean,
    answer_spread,
    answer_keep,
    answer_best,
    answer_advise,
    answer_nth,
    answer_number,
    answer_deal,
    answer_least,
    answer_compare,
    answer_deck,
)


def answer_next(deck, feed):
    answer = ANSWERS[feed.whole_number()]
    try:
        return answer(deck, feed)
    except Refusal as e:
        return [e.number]


def answers(calls):
    deck = Deck()
    feed = Feed(calls)
    found = []
    while not feed.ended():
        numbers = answer_next(deck, feed)
        found.append(len(numbers))
        found.extend(numbers)
    return found
