"""All rows of so many cards.

They are listed for a number of kinds, whatever the kinds' counts are: a row that a deck can't give has no hand there.
Columns, one for each kind, tell the same number by number.
"""


# The rows of so many cards in all.
class Rows:
    def __init__(self, kinds, total):
        self.total = total
        self.listed = rows_of(kinds, total)
        self.columns = [column(self.listed, kind) for kind in range(kinds)]
        self.places = dict([(row, place) for place, row in enumerate(self.listed)])


# Keeps what has been listed for a number of kinds: many calls ask for the same.
class Book:
    def __init__(self, kinds):
        self.kinds = kinds
        self.pages = {}
        self.steps = {}

    def rows(self, total):
        if total not in self.pages:
            self.pages[total] = Rows(self.kinds, total)
        return self.pages[total]

    # For each kind, where each row of so many cards goes if one more card of that kind is drawn.
    def steps_from(self, total):
        if total not in self.steps:
            fewer = self.rows(total)
            more = self.rows(total + 1)
            self.steps[total] = [step_places(fewer, more, kind) for kind in range(self.kinds)]
        return self.steps[total]


def rows_of(kinds, total):
    begun = [((), total)]
    for kind in range(kinds):
        begun = with_next_kind(begun, kind == kinds - 1)
    return [row for row, left in begun if left == 0]


# Each row that's begun, taken on by one kind; the last kind has all that's left.
def with_next_kind(begun, is_last):
    longer = []
    for row, left in begun:
        for taken in range(left if is_last else 0, left + 1):
            longer.append((row + (taken,), left - taken))
    return longer


def column(rows, kind):
    return [row[kind] for row in rows]


def step_places(fewer, more, kind):
    return [more.places[row[:kind] + (row[kind] + 1,) + row[kind + 1:]] for row in fewer.listed]
