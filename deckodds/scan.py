"""The tokens of a condition's text, one after another."""

GREATEST_NUMERAL = 1000


# Goes through a text from the left; seen is the token at hand, empty at the text's end.
class Tokens:
    def __init__(self, letters):
        self.letters = letters
        self.start = 0
        self.seen = ""
        self.advance()

    def advance(self):
        start = self.start + len(self.seen)
        while self.letters[start:start + 1] == " ":
            start += 1
        self.start = start
        self.seen = token_at(self.letters, start)

    def place_seen(self):
        return self.start + 1


def token_at(letters, start):
    # The tokens behind aren't looked at: the one at hand may be wrong before any of them.
    first = letters[start:start + 1]
    if first.islower():
        return letters[start:end_of_name(letters, start)]
    if first.isdigit():
        return letters[start:end_of_numeral(letters, start)]
    longer = letters[start:start + 2]
    if longer in (">=", "<="):
        return longer
    return first


def end_of_name(letters, start):
    end = start
    while letters[end:end + 1].islower():
        end += 1
    return end


def end_of_numeral(letters, start):
    end = start
    while letters[end:end + 1].isdigit():
        end += 1
    return end


# Whether it's a numeral that may stand in a condition.
def is_numeral(token):
    if not token.isdigit() or len(token) > len(str(GREATEST_NUMERAL)):
        return False
    if token[0] == "0" and token != "0":
        return False
    return int(token) <= GREATEST_NUMERAL
