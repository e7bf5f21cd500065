"""The calls on a deck, as one list of whole numbers, and their answers."""

from deckodds.chances import chance, chance_given, first_chances, fraction
from deckodds.deck import MOST_CARDS, Deck
from deckodds.grammar import read_condition
from deckodds.letters import as_bytes, as_letters, is_name
from deckodds.refusals import NoCondition, OutOfRange, Refusal, TooFewCards
from deckodds.truth import truths
from deckodds.wording import one_text

MOST_IN_HAND = 7
MOST_DRAWN = 5


# Goes through the list of calls, which it leaves as it is.
class Feed:
    def __init__(self, calls):
        self.calls = calls
        self.position = 0

    def ended(self):
        return self.position == len(self.calls)

    def whole_number(self):
        self.position += 1
        return self.calls[self.position - 1]

    def row(self):
        length = self.whole_number()
        start = self.position
        self.position += length
        return self.calls[start:start + length]


def need_range(number, most):
    if not 0 <= number <= most:
        raise OutOfRange()


def need_kind(deck, kind):
    need_range(kind, len(deck.counts) - 1)


def need_row(deck, numbers):
    if len(numbers) != len(deck.counts):
        raise OutOfRange()
    for number, count in zip(numbers, deck.counts):
        need_range(number, count)


# In each answer below, the refusals are looked for in their order, the nearest to 0 first,
# once all of the call has been taken from the feed.


def answer_kind(deck, feed):
    count = feed.whole_number()
    name = as_letters(feed.row())
    need_range(count, MOST_CARDS)
    if not is_name(name):
        raise OutOfRange()
    deck.add_kind(name, count)
    return [0, len(deck.names) - 1]


def answer_count(deck, feed):
    kind = feed.whole_number()
    count = feed.whole_number()
    need_kind(deck, kind)
    need_range(count, MOST_CARDS)
    deck.set_count(kind, count)
    return [0, deck.cards()]


def answer_read(deck, feed):
    text = feed.row()
    try:
        condition = read_condition(text, deck.names)
    except NoCondition as e:
        return [0, e.place]
    return [1, len(condition)]


def answer_form(deck, feed):
    condition = read_condition(feed.row(), deck.names)
    return [0] + as_bytes(one_text(condition, deck.names))


def answer_true(deck, feed):
    text = feed.row()
    numbers = feed.row()
    need_row(deck, numbers)
    condition = read_condition(text, deck.names)
    return [0, 1 if truths(condition, [numbers])[0] else 0]


def answer_hand(deck, feed):
    h = feed.whole_number()
    text = feed.row()
    return answer_cards(deck, h, 0, text)


def answer_after(deck, feed):
    h = feed.whole_number()
    d = feed.whole_number()
    text = feed.row()
    return answer_cards(deck, h, d, text)


def answer_cards(deck, h, d, text):
    need_range(h, MOST_IN_HAND)
    need_range(d, MOST_DRAWN)
    condition = read_condition(text, deck.names)
    deck.need_cards(h + d)
    # A hand and what's drawn behind it are together as likely as any hand of so many cards.
    return [0] + chance(deck.counts, h + d, condition)


def answer_given(deck, feed):
    h = feed.whole_number()
    d = feed.whole_number()
    text_known = feed.row()
    text_asked = feed.row()
    need_range(h, MOST_IN_HAND)
    need_range(d, MOST_DRAWN)
    known = read_condition(text_known, deck.names)
    asked = read_condition(text_asked, deck.names)
    deck.need_cards(h + d)
    return [0] + chance_given(deck.counts, h, d, known, asked)


def answer_first(deck, feed):
    h = feed.whole_number()
    d = feed.whole_number()
    text = feed.row()
    need_range(h, MOST_IN_HAND)
    need_range(d, MOST_DRAWN)
    condition = read_condition(text, deck.names)
    deck.need_cards(h + d)
    return [0] + first_chances(deck.counts, h, d, condition)


def answer_mean(deck, feed):
    h = feed.whole_number()
    kind = feed.whole_number()
    need_range(h, MOST_IN_HAND)
    need_kind(deck, kind)
    deck.need_cards(h)
    if deck.cards() == 0:
        raise TooFewCards()
    return [0] + fraction(h * deck.counts[kind], deck.cards())


# By the calls' numbers.
ANSWERS = (
    answer_kind,
    answer_count,
    answer_read,
    answer_form,
    answer_true,
    answer_hand,
    answer_after,
    answer_given,
    answer_first,
    answer_mean,
)


def answer_next(deck, feed):
    answer = ANSWERS[feed.whole_number()]
    try:
        return answer(deck, feed)
    except Refusal as e:
        return [e.number]


def answers(calls):
    deck = Deck()
    feed = Feed(calls)
    found = []
    while not feed.ended():
        numbers = answer_next(deck, feed)
        found.append(len(numbers))
        found.extend(numbers)
    return found
