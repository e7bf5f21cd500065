"""The calls kind, count and deck, and what a deck may hold."""

import unittest

from helper import FAR, ask, ask_deck, ask_one


class KindTest(unittest.TestCase):
    def test_kinds_are_numbered_from_0(self):
        self.assertEqual(ask(("kind", 3, "land"), ("kind", 0, "elf"), ("kind", 2, "x")), [[0, 0], [0, 1], [0, 2]])

    def test_fifth_and_sixth_kind(self):
        found = ask(*[("kind", 1, name) for name in "abcdef"])
        self.assertEqual(found, [[0, 0], [0, 1], [0, 2], [0, 3], [0, 4], [-4]])

    def test_sixth_kind_of_no_cards_has_no_place_either(self):
        self.assertEqual(ask(*[("kind", 0, name) for name in "abcdef"])[5], [-4])

    def test_100_and_101_cards(self):
        found = ask(("kind", 60, "a"), ("kind", 41, "b"), ("kind", 40, "b"), ("kind", 1, "c"), ("kind", 0, "c"))
        self.assertEqual(found, [[0, 0], [-4], [0, 1], [-4], [0, 2]])

    def test_n_of_0_and_100(self):
        self.assertEqual(ask(("kind", 0, "a"), ("kind", 100, "b"), ("count", 1, 100)), [[0, 0], [0, 1], [0, 100]])

    def test_n_out_of_range(self):
        for n in (-1, 101, FAR, -FAR):
            self.assertEqual(ask(("kind", n, "a"), ("kind", 1, "a")), [[-1], [0, 0]], n)

    def test_names_of_1_to_8_letters(self):
        self.assertEqual(ask(("kind", 1, "abcdefgh"), ("kind", 1, "z"), ("kind", 1, "aa")), [[0, 0], [0, 1], [0, 2]])

    def test_names_of_a_wrong_form(self):
        wrong = ["", "abcdefghi", "a" * 2000, "A", "aB", "a1", "1", "a ", " a", "a+b", "`", "{", "a_b", "\x00", "a\xff",
                 "\xe9", "?", "a?", "a\n", "!"]
        for name in wrong:
            self.assertEqual(ask(("kind", 1, name), ("kind", 2, "ok")), [[-1], [0, 0]], name)

    def test_name_that_is_there_already(self):
        found = ask(("kind", 1, "ab"), ("kind", 5, "ab"), ("kind", 1, "a"), ("count", 0, 1))
        self.assertEqual(found, [[0, 0], [-5], [0, 1], [0, 2]])

    def test_nearest_refusal_to_0_is_answered(self):
        deck = {"a": 50, "b": 50}
        self.assertEqual(ask_deck(deck, ("kind", 1, "a")), [[-4]])
        self.assertEqual(ask_deck(deck, ("kind", 0, "a")), [[-5]])
        self.assertEqual(ask_deck(deck, ("kind", 101, "a")), [[-1]])
        self.assertEqual(ask_deck(deck, ("kind", 1, "A")), [[-1]])
        full = {name: 0 for name in "abcde"}
        self.assertEqual(ask_deck(full, ("kind", 0, "a")), [[-4]])
        self.assertEqual(ask_deck(full, ("kind", 0, "")), [[-1]])
        self.assertEqual(ask_deck(full, ("kind", -1, "a")), [[-1]])

    def test_refusal_leaves_the_deck(self):
        found = ask_deck({"a": 60}, ("kind", 41, "b"), ("kind", 1, "a"), ("kind", -1, "b"), ("kind", 1, "?"),
                         ("count", 0, 60), ("read", "b=1"), ("true", "a=60", [60]))
        self.assertEqual(found, [[-4], [-5], [-1], [-1], [0, 60], [0, 1], [0, 1]])


class CountTest(unittest.TestCase):
    def test_answers_all_cards(self):
        found = ask_deck({"a": 3, "b": 4}, ("count", 0, 10), ("count", 1, 0), ("count", 0, 0))
        self.assertEqual(found, [[0, 14], [0, 10], [0, 0]])

    def test_the_kind_has_as_many_now(self):
        found = ask_deck({"a": 3, "b": 4}, ("count", 0, 1), ("true", "a=1", [1, 4]), ("true", "a=1", [2, 4]),
                         ("hand", 1, "a=1"))
        self.assertEqual(found, [[0, 5], [0, 1], [-1], [0, 1, 5]])

    def test_100_and_101_cards(self):
        found = ask_deck({"a": 30, "b": 60}, ("count", 0, 40), ("count", 0, 41), ("count", 1, 61), ("count", 1, 60))
        self.assertEqual(found, [[0, 100], [-4], [-4], [0, 100]])

    def test_the_old_count_gives_its_place(self):
        self.assertEqual(ask_deck({"a": 100}, ("count", 0, 99), ("count", 0, 100)), [[0, 99], [0, 100]])

    def test_no_such_kind(self):
        for kind in (-1, 2, 5, FAR, -FAR):
            self.assertEqual(ask_deck({"a": 1, "b": 2}, ("count", kind, 1), ("count", 0, 1)), [[-1], [0, 3]], kind)
        self.assertEqual(ask(("count", 0, 1)), [[-1]])

    def test_n_out_of_range(self):
        for n in (-1, 101, FAR, -FAR):
            self.assertEqual(ask_deck({"a": 1}, ("count", 0, n), ("count", 0, 1)), [[-1], [0, 1]], n)

    def test_nearest_refusal_to_0_is_answered(self):
        self.assertEqual(ask_deck({"a": 60, "b": 40}, ("count", 0, 101), ("count", 2, 100)), [[-1], [-1]])

    def test_refusal_leaves_the_deck(self):
        found = ask_deck({"a": 60, "b": 40}, ("count", 1, 41), ("count", 1, 101), ("hand", 1, "b=1"))
        self.assertEqual(found, [[-4], [-1], [0, 2, 5]])


class DeckTest(unittest.TestCase):
    def test_no_kinds(self):
        self.assertEqual(ask(("deck",), ("deck",)), [[0, 0], [0, 0]])

    def test_all_cards_and_each_count(self):
        self.assertEqual(ask_one({"a": 3}, "deck"), [0, 3, 3])
        self.assertEqual(ask_one({"a": 0, "b": 0}, "deck"), [0, 0, 0, 0])
        self.assertEqual(ask_one({"e": 60, "d": 0, "c": 1, "b": 39, "a": 0}, "deck"), [0, 100, 60, 0, 1, 39, 0])

    def test_as_it_is_now(self):
        found = ask(("deck",), ("kind", 5, "a"), ("deck",), ("kind", 7, "b"), ("deck",), ("count", 0, 2), ("deck",),
                    ("kind", 7, "b"), ("kind", 101, "c"), ("count", 1, 99), ("count", 2, 1), ("deck",), ("count", 1, 98),
                    ("deck",))
        self.assertEqual(found, [[0, 0], [0, 0], [0, 5, 5], [0, 1], [0, 12, 5, 7], [0, 9], [0, 9, 2, 7], [-5], [-1], [-4],
                                 [-1], [0, 9, 2, 7], [0, 100], [0, 100, 2, 98]])

    def test_what_is_answered_is_no_part_of_the_deck(self):
        found = ask(("kind", 5, "a"), ("deck",), ("count", 0, 6), ("deck",), ("kind", 1, "b"), ("deck",))
        self.assertEqual(found[1::2], [[0, 5, 5], [0, 6, 6], [0, 7, 6, 1]])


if __name__ == "__main__":
    unittest.main()
