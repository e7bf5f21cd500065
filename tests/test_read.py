"""The call read: what is a condition, its size, and the place of what's wrong."""

import unittest

from helper import ask, ask_deck, ask_one

DECK = {"a": 3, "b": 4, "land": 5, "abcdefgh": 0}


def nested(opening, closing, times, inner="a=1"):
    return opening * times + inner + closing * times


class SizeTest(unittest.TestCase):
    def check(self, text, size):
        self.assertEqual(ask_one(DECK, "read", text), [1, size], text)

    def test_comparisons(self):
        for sign in (">=", "<=", "=", ">", "<"):
            self.check("a" + sign + "1", 1)
        self.check("a+b+land>=12", 1)
        self.check("a+a+a=3", 1)
        self.check("abcdefgh<1", 1)

    def test_joined(self):
        self.check("!a=1", 2)
        self.check("!!a=1", 3)
        self.check("a=1&b=1", 3)
        self.check("a=1|b=1", 3)
        self.check("a=1&b=1&a=2", 4)
        self.check("a=1&b=1|a=2", 5)
        self.check("a=1|b=1&a=2", 5)
        self.check("a=1&(b=1|a=2)", 5)
        self.check("!(a=1&b=1)", 4)
        self.check("!a=1&b=1", 4)

    def test_brackets_add_nothing(self):
        self.check("(a=1)", 1)
        self.check("((a=1))", 1)
        self.check("(!(a=1))", 2)

    def test_an_any_within_an_any_gives_its_parts(self):
        self.check("(a=1|b=1)|a=2", 4)
        self.check("a=1|((b=1|a=2))", 4)
        self.check("((a=1|b=1)|a=2)|(b=3|a=3)", 6)
        self.check("a=1|!(b=1|a=2)", 6)
        self.check("a=1|(b=1|a=2)&a=3", 7)

    def test_an_all_within_an_all_gives_its_parts(self):
        self.check("(a=1&b=1)&a=2", 4)
        self.check("a=1&((b=1&a=2))", 4)
        self.check("((a=1&b=1)&a=2)&(b=3&a=3)", 6)
        self.check("a=1&!(b=1&a=2)", 6)
        self.check("(a=1&b=1)|(a=2&b=2)", 7)

    def test_blanks(self):
        self.check("  a  >=  1  ", 1)
        self.check(" ( a + b >= 1 ) & ! ! b < 2 | a = 0 ", 7)
        self.check("a=1" + " " * 997, 1)

    def test_numerals(self):
        for numeral in ("0", "1", "9", "10", "100", "999", "1000"):
            self.check("a>=" + numeral, 1)

    def test_nesting_of_40(self):
        self.check(nested("(", ")", 40), 1)
        self.check(nested("!", "", 40), 41)
        self.check(nested("!(", ")", 20), 21)
        self.check(nested("( ! ", " ) ", 20), 21)

    def test_nesting_ends_with_what_is_nested(self):
        self.check("&".join(["!a=1"] * 100), 201)
        self.check("|".join(["(!(a=1))"] * 50), 101)
        self.check("&".join([nested("!(", ")", 20)] * 10), 10 * 21 + 1)
        self.check("!(" * 19 + "!a=1&!(b=1)|(!a=2)" + ")" * 19, 27)

    def test_texts_of_1000_bytes(self):
        self.check("|".join(["a=1"] * 250) + " ", 251)
        self.check("a+" * 497 + "a>=10", 1)
        self.check(" " * 996 + "a>=1", 1)


class PlaceTest(unittest.TestCase):
    def check(self, text, place):
        self.assertEqual(ask_one(DECK, "read", text), [0, place], text)

    def test_first_of_all_from_the_left(self):
        self.check("a a $", 3)
        self.check("a $ a", 3)
        self.check("a>=1 $ b", 6)
        self.check("a>=00 $", 4)
        self.check("$ a>=00", 1)
        self.check("(a>=1 x $", 7)
        self.check("a 00 x", 3)

    def test_text_that_ends_too_early(self):
        for text in ("", " ", "a", "a ", "a+", "a >", "a>=", "a>= ", "(", "!", "! ", "(a=1", "(a=1 ", "((a=1)", "a=1&",
                     "a=1|", "a=1 & ", "a=1&(b=1|a=2", "!(a=1", "a+b", "   "):
            self.check(text, len(text) + 1)

    def test_token_that_cannot_stand_there(self):
        for text, place in (("a=1)", 4), ("(a=1))", 6), ("()", 2), ("a=1 b=1", 5), ("a=1!b=1", 4), ("a=1(b=1)", 4),
                            ("&a=1", 1), ("|", 1), ("a=1&&b=1", 5), ("a=1||b=1", 5), ("a=1&|b=1", 5), ("+a=1", 1),
                            ("a++b=1", 3), ("a+1=1", 3), ("a+!b=1", 3), ("(a)=1", 3), ("a+(b)=1", 3), ("a=b", 3),
                            ("1=a", 1), ("=1", 1), ("a=1=1", 4), ("a=1+1", 4), ("a&b", 2), ("!&", 2), (")", 1),
                            ("a=1 1", 5), ("a 1", 3), ("a!=1", 2), ("a=1 2=b", 5), ("a=(1)", 3), ("a=!1", 3)):
            self.check(text, place)

    def test_signs_as_long_as_they_fit(self):
        for text, place in (("a==1", 3), ("a=>1", 3), ("a=<1", 3), ("a<>1", 3), ("a>>1", 3), ("a>==1", 4),
                            ("a<==1", 4), ("a> =1", 4), ("a< =1", 4), ("a>", 3), ("a<=", 4), ("a><=1", 3)):
            self.check(text, place)

    def test_bytes_that_are_no_token(self):
        tokens = [ord(letter) for letter in " abcdefghijklmnopqrstuvwxyz0123456789()!&|+=<>"]
        for byte in range(256):
            if byte not in tokens:
                calls = [("read", [byte]), ("read", [32, byte]), ("read", [97, byte]), ("read", [97, 61, 49, byte])]
                self.assertEqual(ask_deck(DECK, *calls), [[0, 1], [0, 2], [0, 2], [0, 4]], byte)
        for text, place in (("A=1", 1), ("a=1\n", 4), ("\ta=1", 1), ("a=-1", 3), ("a=1.", 4), ("a,b=1", 2), ("?", 1)):
            self.check(text, place)

    def test_numerals(self):
        for numeral in ("1001", "00", "01", "000", "0001", "01000", "10000", "9999", "1" * 500, "0" * 900):
            self.check("a>=" + numeral, 4)
            self.check(" a >= " + numeral + " $", 7)
        self.check("a=1000b", 7)
        self.check("a=0 0", 5)
        self.check("a=0x", 4)

    def test_names_that_are_no_kinds(self):
        for text, place in (("c=1", 1), ("ab=1", 1), ("a+c=1", 3), ("lan=1", 1), ("lands=1", 1), ("a=1&c=1", 5),
                            ("abcdefghi=1", 1), ("aa=1", 1), ("a=1 | ( zz", 9), ("land+ a +c>1", 10)):
            self.check(text, place)
        self.check("a c=1", 3)

    def test_names_of_no_kind_become_kinds_later(self):
        found = ask(("read", "a=1"), ("kind", 0, "a"), ("read", "a=1"), ("read", "a+b=1"), ("kind", 0, "b"),
                    ("read", "a+b=1"))
        self.assertEqual(found, [[0, 1], [0, 0], [1, 1], [0, 3], [0, 1], [1, 1]])

    def test_a_deck_without_kinds_has_no_condition(self):
        self.assertEqual(ask(("read", ""), ("read", "a=1"), ("read", "!(a=1)"), ("read", "$")),
                         [[0, 1], [0, 1], [0, 3], [0, 1]])

    def test_nesting_of_41(self):
        self.check(nested("(", ")", 41), 41)
        self.check(nested("!", "", 41), 41)
        self.check(nested("!(", ")", 20, "!a=1"), 41)
        self.check(nested("!(", ")", 20, "(a=1)"), 41)
        self.check(nested(" (", ")", 41), 82)
        self.check(nested("!", "", 20) + "&" + nested("!", "", 41), 20 + 3 + 1 + 41)
        self.check("!(" * 19 + "!a=1&!(!b=1)" + ")" * 19, 38 + 8)
        self.check("(" * 500, 41)
        self.check("!" * 1000, 41)

    def test_texts_of_1000_and_1001_bytes(self):
        self.check("a=1" + " " * 998, 1001)
        self.check("$" * 1001, 1001)
        self.check("$" * 1000, 1)
        self.check(" " * 1000, 1001)
        self.check(" " * 1001, 1001)
        self.check(" " * 999, 1000)
        self.check(" " * 2000, 1001)
        self.check("a=1|" * 250, 1001)
        self.check("(" * 1001, 1001)
        self.check("a=1|" * 500, 1001)


if __name__ == "__main__":
    unittest.main()
