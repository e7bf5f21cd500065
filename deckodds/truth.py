"""Of which rows a condition is true.

All rows are asked together, a step of the condition at a time: there may be many. They come as columns, one for each
kind, with a number for each row.
"""

from deckodds.condition import ALL, NOT, worked_out


# For each row in turn whether the condition is true of it.
def truths(condition, columns):
    return worked_out(condition, lambda step, parts: step_truths(step, parts, columns))


def step_truths(step, parts, columns):
    if step.parts == 0:
        return compared(sums(step.kinds, columns), step.sign, step.number)
    if step.sign == NOT:
        return [not truth for truth in parts[0]]
    found = parts[0]
    for part in parts[1:]:
        if step.sign == ALL:
            found = [one and other for one, other in zip(found, part)]
        else:
            found = [one or other for one, other in zip(found, part)]
    return found


# For each row how many cards it has of these kinds, each counted as often as it stands there.
def sums(kinds, columns):
    if len(kinds) == 1:
        return columns[kinds[0]]
    found = [0 for taken in columns[0]]
    for kind in sorted(set(kinds)):
        times = kinds.count(kind)
        found = [number + times * taken for number, taken in zip(found, columns[kind])]
    return found


def compared(numbers, sign, bound):
    if sign == ">=":
        return [number >= bound for number in numbers]
    if sign == "<=":
        return [number <= bound for number in numbers]
    if sign == "=":
        return [number == bound for number in numbers]
    if sign == ">":
        return [number > bound for number in numbers]
    return [number < bound for number in numbers]
