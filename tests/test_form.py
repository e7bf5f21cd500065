"""The call form: the one text of a condition."""

import unittest

from helper import ask, ask_deck, ask_one

DECK = {"a": 3, "b": 4, "land": 5}


class FormTest(unittest.TestCase):
    def check(self, text, one_text):
        self.assertEqual(ask_one(DECK, "form", text), [0] + list(one_text.encode()), text)

    def test_comparisons(self):
        for sign in (">=", "<=", "=", ">", "<"):
            self.check(" a " + sign + "  10 ", "a" + sign + "10")
        self.check("land + a+ b +a>=1000", "land+a+b+a>=1000")
        self.check("a=0", "a=0")

    def test_brackets_that_are_not_needed(self):
        self.check("(((a=1)))", "a=1")
        self.check("!(a=1)", "!a=1")
        self.check("! ( ! ( a = 1 ) )", "!!a=1")
        self.check("(a=1)&(b=1)", "a=1 & b=1")
        self.check("(a=1&b=1)|(a=2&b=2)", "a=1 & b=1 | a=2 & b=2")
        self.check("(!a=1)|(b=1)", "!a=1 | b=1")
        self.check("(a=1|b=1)|a=2", "a=1 | b=1 | a=2")
        self.check("a=1&(b=1&(a=2&b=2))", "a=1 & b=1 & a=2 & b=2")
        self.check("(a=1|b=1)", "a=1 | b=1")
        self.check("!((!a=1))&(b=1)", "!!a=1 & b=1")

    def test_brackets_that_are_needed(self):
        self.check("!(a=1&b=1)", "!(a=1 & b=1)")
        self.check("!(a=1|b=1)", "!(a=1 | b=1)")
        self.check("(a=1|b=1)&a=2", "(a=1 | b=1) & a=2")
        self.check("a=1&((b=1|a=2))", "a=1 & (b=1 | a=2)")
        self.check("!!(a=1&(b=1|!(land=2|a=3)))", "!!(a=1 & (b=1 | !(land=2 | a=3)))")

    def test_an_all_within_an_any_within_an_all(self):
        self.check("(a=1|(b=1&(a=2|b=2)))&a=3", "(a=1 | b=1 & (a=2 | b=2)) & a=3")

    def test_long_and_deep_texts(self):
        self.check("|".join(["a=1"] * 250), " | ".join(["a=1"] * 250))
        self.check("(" * 40 + "a=1" + ")" * 40, "a=1")
        self.check("!(" * 20 + "a=1|b=1" + ")" * 20, "!" * 20 + "(a=1 | b=1)")
        deep = "a=1&(b=1|" * 40 + "a=2" + ")" * 40
        self.check(deep, "a=1 & (b=1 | " * 40 + "a=2" + ")" * 40)

    def test_the_one_text_stays_as_it_is(self):
        text = "!(a=1 & (b=1 | land>2)) | !!a<3 & b<=0"
        self.check(text, text)

    def test_no_condition(self):
        for text in ("", "a", "c=1", "a=00", "a=1001", "a a $", "(a=1", "$", "(" * 41 + "a=1" + ")" * 41,
                     "a=1" + " " * 998):
            self.assertEqual(ask_deck(DECK, ("form", text), ("count", 0, 3)), [[-2], [0, 12]], text)
        self.assertEqual(ask(("form", "a=1")), [[-2]])


if __name__ == "__main__":
    unittest.main()
