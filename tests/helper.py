"""What the tests share: calls written with names and texts, and a second way to read and count.

The second way is as plain as can be: conditions are read by recursion into trees, and chances
are counted by listing all hands card by card.
"""

import itertools
import re
from fractions import Fraction

from deckodds.desk import answers

NAMES = ("kind", "count", "read", "form", "true", "hand", "after", "given", "first", "mean", "spread", "keep", "best",
         "advise", "nth", "number", "deal", "least", "compare", "deck")
FAR = 1000000000000000000


def flat_call(call):
    """A call ("kind", 3, "a") as numbers; a text or a list has its length before it."""
    numbers = [NAMES.index(call[0])]
    for part in call[1:]:
        if isinstance(part, int):
            numbers.append(part)
        else:
            row = list(part.encode("latin-1")) if isinstance(part, str) else list(part)
            numbers.append(len(row))
            numbers.extend(row)
    return numbers


def flat(calls):
    return [number for call in calls for number in flat_call(call)]


def split(found):
    parts = []
    place = 0
    while place < len(found):
        parts.append(found[place + 1:place + 1 + found[place]])
        place += 1 + found[place]
    return parts


def ask(*calls):
    """The answers of some calls on one new deck, a list each."""
    return split(answers(flat(calls)))


def kinds(deck):
    """The calls that make a deck of {name: count}."""
    return [("kind", count, name) for name, count in deck.items()]


def ask_deck(deck, *calls):
    """The answers of some calls on a deck of {name: count}."""
    return ask(*kinds(deck), *calls)[len(deck):]


def ask_one(deck, *call):
    return ask_deck(deck, call)[0]


class Wrong(Exception):
    pass


TOKEN = re.compile(r" *(?:([a-z]+)|([0-9]+)|(>=|<=|[()!&|+=<>]))", re.DOTALL)


class Oracle:
    """Reads a text as the forms say; the result is a tree of tuples."""

    def __init__(self, text, names):
        self.text = text
        self.names = names
        self.end = 0
        self.move()

    def move(self):
        rest = re.compile(" *").match(self.text, self.end).end()
        match = TOKEN.match(self.text, self.end)
        self.start = rest
        self.token = None
        if match:
            self.token = match.group(0).lstrip(" ")
            self.end = match.end()

    def wrong(self):
        raise Wrong(self.start + 1)

    def whole(self):
        if len(self.text) > 1000:
            raise Wrong(1001)
        tree = self.joined("|", "any", lambda: self.joined("&", "all", lambda: self.denied(0)))
        if self.start != len(self.text):
            self.wrong()
        return tree

    def inner(self, depth):
        return self.joined("|", "any", lambda: self.joined("&", "all", lambda: self.denied(depth)))

    def joined(self, sign, word, part):
        found = [part()]
        while self.token == sign:
            self.move()
            found.append(part())
        if len(found) == 1:
            return found[0]
        parts = []
        for tree in found:
            parts.extend(tree[1] if tree[0] == word else [tree])
        return (word, parts)

    def denied(self, depth):
        if self.token in ("!", "("):
            if depth == 40:
                self.wrong()
            opening = self.token
            self.move()
            if opening == "!":
                return ("not", self.denied(depth + 1))
            tree = self.inner(depth + 1)
            if self.token != ")":
                self.wrong()
            self.move()
            return tree
        return self.comparison()

    def comparison(self):
        found = [self.name()]
        while self.token == "+":
            self.move()
            found.append(self.name())
        sign = self.token
        if sign not in (">=", "<=", "=", ">", "<"):
            self.wrong()
        self.move()
        if self.token is None or not re.fullmatch("0|[1-9][0-9]{0,2}|1000", self.token):
            self.wrong()
        number = int(self.token)
        self.move()
        return ("comparison", found, sign, number)

    def name(self):
        if self.token not in self.names:
            self.wrong()
        name = self.token
        self.move()
        return name


def oracle(text, names):
    return Oracle(text, list(names)).whole()


def size(tree):
    if tree[0] == "comparison":
        return 1
    if tree[0] == "not":
        return 1 + size(tree[1])
    return 1 + sum(size(part) for part in tree[1])


def words(tree):
    if tree[0] == "comparison":
        return "+".join(tree[1]) + tree[2] + str(tree[3])
    if tree[0] == "not":
        inner = words(tree[1])
        return "!(" + inner + ")" if tree[1][0] in ("all", "any") else "!" + inner
    if tree[0] == "all":
        return " & ".join("(" + words(part) + ")" if part[0] == "any" else words(part) for part in tree[1])
    return " | ".join(words(part) for part in tree[1])


def holds(tree, hand):
    """Whether the tree is true of a hand, which is a row of kinds' names."""
    if tree[0] == "not":
        return not holds(tree[1], hand)
    if tree[0] == "all":
        return all(holds(part, hand) for part in tree[1])
    if tree[0] == "any":
        return any(holds(part, hand) for part in tree[1])
    found = sum(list(hand).count(name) for name in tree[1])
    return {">=": found >= tree[3], "<=": found <= tree[3], "=": found == tree[3],
            ">": found > tree[3], "<": found < tree[3]}[tree[2]]


def cards(deck):
    return [name for name, count in deck.items() for card in range(count)]


def listed_hands(deck, h, d):
    """All hands of h cards, each with all orders in which d cards can be drawn, as kinds' names."""
    all_cards = cards(deck)
    for hand in itertools.combinations(range(len(all_cards)), h):
        rest = [card for card in range(len(all_cards)) if card not in hand]
        for draws in itertools.permutations(rest, d):
            yield [all_cards[card] for card in hand], [all_cards[card] for card in draws]


def told(*fractions):
    """Fractions as an answer tells them."""
    found = [0]
    for one in fractions:
        found.extend([Fraction(one).numerator, Fraction(one).denominator])
    return found


def listed_after(deck, h, d, text):
    tree = oracle(text, deck)
    truths = [holds(tree, hand + draws) for hand, draws in listed_hands(deck, h, d)]
    return told(Fraction(sum(truths), len(truths)))


def listed_given(deck, h, d, text_a, text_b):
    tree_a = oracle(text_a, deck)
    tree_b = oracle(text_b, deck)
    truths = [holds(tree_b, hand + draws) for hand, draws in listed_hands(deck, h, d) if holds(tree_a, hand)]
    return told(Fraction(sum(truths), len(truths))) if truths else [-8]


def listed_first(deck, h, d, text):
    tree = oracle(text, deck)
    found = [0] * (d + 2)
    whole = 0
    for hand, draws in listed_hands(deck, h, d):
        whole += 1
        true_at = [j for j in range(d + 1) if holds(tree, hand + draws[:j])]
        found[min(true_at, default=d + 1)] += 1
    return told(*[Fraction(number, whole) for number in found[:d + 1]])


def listed_spread(deck, h, kind):
    name = list(deck)[kind]
    numbers = [Fraction(hand.count(name)) for hand, draws in listed_hands(deck, h, 0)]
    mean = sum(numbers) / len(numbers)
    return told(sum((number - mean) ** 2 for number in numbers) / len(numbers))


def listed_row(deck, hand):
    """The row of a hand that's told by its cards' numbers."""
    found = [cards(deck)[card] for card in hand]
    return tuple(found.count(name) for name in deck)


class Listing:
    """Hands of a small deck that are kept or given back; a hand is its cards' numbers."""

    def __init__(self, deck, d, text):
        self.deck = deck
        self.d = d
        self.tree = oracle(text, deck)
        self.known = {}

    def names(self, hand):
        return [cards(self.deck)[card] for card in hand]

    def hands(self, size):
        return list(itertools.combinations(range(len(cards(self.deck))), size))

    def kept(self, hand):
        """The chance once the hand is kept."""
        if hand not in self.known:
            rest = [card for card in range(len(cards(self.deck))) if card not in hand]
            truths = [holds(self.tree, self.names(hand + draws)) for draws in itertools.combinations(rest, self.d)]
            self.known[hand] = Fraction(sum(truths), len(truths))
        return self.known[hand]

    def chance(self, size, least, is_kept):
        """The chance if a hand is kept where is_kept(hand) says so."""
        hands = self.hands(size)
        if size <= least:
            return sum(self.kept(hand) for hand in hands) / Fraction(len(hands))
        back = self.chance(size - 1, least, is_kept)
        return sum(self.kept(hand) if is_kept(hand) else back for hand in hands) / Fraction(len(hands))

    def greatest(self, size, least):
        hands = self.hands(size)
        if size <= least:
            return sum(self.kept(hand) for hand in hands) / Fraction(len(hands))
        back = self.greatest(size - 1, least)
        return sum(max(self.kept(hand), back) for hand in hands) / Fraction(len(hands))

    def rows_kept(self, size, least):
        back = self.greatest(size - 1, least)
        return {listed_row(self.deck, hand) for hand in self.hands(size) if self.kept(hand) >= back}


def listed_keep(deck, h, least, d, text_a, text_b):
    listing = Listing(deck, d, text_b)
    tree = oracle(text_a, deck)
    return told(listing.chance(h, least, lambda hand: holds(tree, listing.names(hand))))


def listed_best(deck, h, least, d, text):
    listing = Listing(deck, d, text)
    numbers = [len(listing.rows_kept(size, least)) for size in range(h, least, -1)]
    return told(listing.greatest(h, least)) + numbers


def listed_advise(deck, least, d, text, row):
    listing = Listing(deck, d, text)
    hand = next(hand for hand in listing.hands(sum(row)) if listed_row(deck, hand) == tuple(row))
    kept = listing.kept(hand)
    back = listing.greatest(len(hand) - 1, least)
    return [0, int(kept >= back)] + told(kept, back)[1:]


def listed_nth(deck, h, i):
    hands = list(itertools.combinations(range(len(cards(deck))), h))
    return [0, *hands[i], *listed_row(deck, hands[i])] if i < len(hands) else [-8]


def listed_number(deck, hand):
    return [0, list(itertools.combinations(range(len(cards(deck))), len(hand))).index(tuple(hand))]


def listed_deal(deck, seed, h):
    x = (seed * 6364136223846793005 + 1442695040888963407) % 2 ** 64
    hands = list(itertools.combinations(range(len(cards(deck))), h))
    return [0, x] + listed_nth(deck, h, x % len(hands))[1:]


def listed_least(deck, a, b, h, d, p, q, text):
    names = list(deck)
    for n in range(deck[names[b]] + 1):
        changed = {**deck, names[a]: deck[names[a]] + n, names[b]: deck[names[b]] - n}
        chance = listed_after(changed, h, d, text)
        if Fraction(chance[1], chance[2]) >= Fraction(p, q):
            return [0, n] + chance[1:]
    return [-8]


def listed_compare(deck, h, d, text_a, text_b):
    chances = [listed_after(deck, h, d, text) for text in (text_a, text_b)]
    one, other = [Fraction(chance[1], chance[2]) for chance in chances]
    return [0, 0 if one < other else 1 if one == other else 2]
