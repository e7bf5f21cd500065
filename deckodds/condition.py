"""Conditions, each a list of steps: those of its parts one after another, then its own.

So a condition's size is its list's length, and nested ones are gone through by a loop.
"""

NOT = "!"
ALL = "&"
ANY = "|"


# A comparison of some kinds with a number, or what's made of so many parts that stand before it.
class Step:
    def __init__(self, sign, parts, kinds, number):
        self.sign = sign
        self.parts = parts
        self.kinds = kinds
        self.number = number


def comparison(kinds, sign, number):
    return [Step(sign, 0, tuple(kinds), number)]


# What's made of parts compares nothing itself.
def made_of_parts(sign, parts):
    return Step(sign, parts, (), 0)


def denied(condition, times):
    return condition + [made_of_parts(NOT, 1) for turn in range(times)]


# An all or an any of some conditions, or the one itself if it's alone.
def joined(conditions, sign):
    if len(conditions) == 1:
        return conditions[0]
    steps = []
    parts = 0
    for condition in conditions:
        last = condition[-1]
        # An all has no all right within it, an any no any: such a one gives its parts.
        if last.sign == sign:
            steps.extend(condition[:-1])
            parts += last.parts
        else:
            steps.extend(condition)
            parts += 1
    steps.append(made_of_parts(sign, parts))
    return steps


# The condition's value, from value_of(step, the values of its parts).
def worked_out(condition, value_of):
    values = []
    for step in condition:
        cut = len(values) - step.parts
        value = value_of(step, values[cut:])
        values = values[:cut]
        values.append(value)
    return values[0]
