"""Reads a text as a condition, or tells the place of what's wrong with it."""

from deckodds.condition import ALL, ANY, NOT, comparison, denied, joined
from deckodds.letters import as_letters
from deckodds.refusals import NoCondition
from deckodds.scan import Tokens, is_numeral

LONGEST_TEXT = 1000
DEEPEST = 40
COMPARING = (">=", "<=", "=", ">", "<")


# What has been read so far within one bracket, or within no bracket.
class Level:
    def __init__(self):
        self.ands = []
        self.nots = []
        self.denials = 0

    def deny(self):
        self.denials += 1

    def take(self, condition):
        self.nots.append(denied(condition, self.denials))
        self.denials = 0

    def end_and(self):
        self.ands.append(joined(self.nots, ALL))
        self.nots = []

    def whole(self):
        self.end_and()
        return joined(self.ands, ANY)


# The condition that the bytes say, of kinds with these names.
def read_condition(text, names):
    if len(text) > LONGEST_TEXT:
        raise NoCondition(LONGEST_TEXT + 1)
    tokens = Tokens(as_letters(text))
    levels = [Level()]
    ended = False
    while not ended:
        read_openings(tokens, levels)
        levels[-1].take(read_comparison(tokens, names))
        read_closings(tokens, levels)
        ended = tokens.seen == "" and len(levels) == 1
        if not ended:
            read_joint(tokens, levels[-1])
    return levels[0].whole()


def read_openings(tokens, levels):
    while tokens.seen in (NOT, "("):
        if depth(levels) == DEEPEST:
            raise NoCondition(tokens.place_seen())
        if tokens.seen == NOT:
            levels[-1].deny()
        else:
            levels.append(Level())
        tokens.advance()


def depth(levels):
    return len(levels) - 1 + sum([level.denials for level in levels])


def read_closings(tokens, levels):
    while tokens.seen == ")" and len(levels) > 1:
        inner = levels.pop()
        levels[-1].take(inner.whole())
        tokens.advance()


def read_joint(tokens, level):
    if tokens.seen not in (ALL, ANY):
        raise NoCondition(tokens.place_seen())
    if tokens.seen == ANY:
        level.end_and()
    tokens.advance()


def read_comparison(tokens, names):
    kinds = [read_kind(tokens, names)]
    while tokens.seen == "+":
        tokens.advance()
        kinds.append(read_kind(tokens, names))
    sign = tokens.seen
    if sign not in COMPARING:
        raise NoCondition(tokens.place_seen())
    tokens.advance()
    numeral = tokens.seen
    if not is_numeral(numeral):
        raise NoCondition(tokens.place_seen())
    tokens.advance()
    return comparison(kinds, sign, int(numeral))


def read_kind(tokens, names):
    if tokens.seen not in names:
        raise NoCondition(tokens.place_seen())
    kind = names.index(tokens.seen)
    tokens.advance()
    return kind
