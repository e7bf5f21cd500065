"""The list of calls, taken number by number."""


# Goes through the list of calls, which it leaves as it is.
class Feed:
    def __init__(self, calls):
        self.calls = calls
        self.position = 0

    def ended(self):
        return self.position == len(self.calls)

    def whole_number(self):
        self.position += 1
        return self.calls[self.position - 1]

    def row(self):
        length = self.whole_number()
        start = self.position
        self.position += length
        return self.calls[start:start + length]
