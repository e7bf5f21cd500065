"""What a call is refused with."""


# A call that's refused; its number is all that's answered.
class Refusal(Exception):
    def __init__(self, number):
        self.number = number


# A number isn't in its range, or a name or row isn't of its form.
class OutOfRange(Refusal):
    def __init__(self):
        Refusal.__init__(self, -1)


# A text is no condition; the place of what's wrong counts from 1.
class NoCondition(Refusal):
    def __init__(self, place):
        Refusal.__init__(self, -2)
        self.place = place


# The deck can't hold more kinds or cards.
class NoPlace(Refusal):
    def __init__(self):
        Refusal.__init__(self, -4)


# A kind has that name already.
class NameTaken(Refusal):
    def __init__(self):
        Refusal.__init__(self, -5)


# The deck has less cards than are asked for.
class TooFewCards(Refusal):
    def __init__(self):
        Refusal.__init__(self, -7)


# Nothing is as it's asked for.
class NoneSuch(Refusal):
    def __init__(self):
        Refusal.__init__(self, -8)
