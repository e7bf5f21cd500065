"""The one text of a condition."""

from deckodds.condition import NOT, worked_out

# What needs brackets within each.
BRACKETED = {"!": ("&", "|"), "&": ("|",), "|": ()}


def one_text(condition, names):
    return worked_out(condition, lambda step, parts: worded(step, parts, names))[1]


# The step's sign, which tells whether brackets are needed around it, and its text.
def worded(step, parts, names):
    if step.parts == 0:
        return (step.sign, comparison_text(step, names))
    texts = [within(step.sign, part[0], part[1]) for part in parts]
    if step.sign == NOT:
        return (NOT, NOT + texts[0])
    sign = step.sign
    between = f" {sign} "
    return (sign, between.join(texts))


def comparison_text(step, names):
    return "+".join([names[kind] for kind in step.kinds]) + step.sign + str(step.number)


def within(outer, inner, text):
    if inner in BRACKETED[outer]:
        return f"({text})"
    return text
