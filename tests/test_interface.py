"""answers itself: one list in, one list out, and nothing kept."""

import subprocess
import sys
import unittest

import helper
from deckodds.desk import answers
from helper import ask, flat

# Calls 0 to 9, then 10 to 19, number by number.
LINE = [0, 3, 1, 97, 0, 2, 2, 98, 99, 5, 1, 3, 97, 61, 49, 1, 0, 4, 5, 1, 3, 97, 61, 49, 2, 1, 36, 5, 9, 0, 9, 1, 1,
        3, 5, 32, 97, 32, 61, 49, 4, 4, 97, 62, 61, 50, 2, 2, 0,
        10, 1, 0, 11, 2, 1, 0, 3, 97, 61, 49, 4, 97, 62, 61, 49, 12, 2, 0, 1, 4, 97, 62, 61, 50, 13, 1, 0, 3, 97, 61, 49, 2,
        1, 1, 14, 2, 4, 15, 2, 0, 5, 16, 0, 1, 17, 1, 0, 1, 0, 1, 2, 4, 98, 99, 61, 49, 18, 1, 0, 3, 97, 61, 49, 4, 98, 99,
        61, 49, 19]
ANSWERS = [2, 0, 0, 2, 0, 1, 3, 0, 3, 5, 2, 0, 6, 3, 0, 2, 3, 2, 0, 1, 1, -1, 3, 0, 1, 3, 4, 0, 97, 61, 49, 2, 0, 1,
           3, 0, 2, 9, 3, 0, 38, 45, 5, 0, 62, 75, 2, 2, 6, 0, 1, 1, 1, 2, 3, 5, 0, 0, 5, 1, 1, 2, 0, 4, 5, 0,
           1442695040888963407, 1, 1, 0, 4, 0, 1, 1, 2, 2, 0, 2, 4, 0, 6, 4, 2]


class InterfaceTest(unittest.TestCase):
    def test_one_list_in_one_list_out(self):
        self.assertEqual(answers(list(LINE)), ANSWERS)

    def test_what_is_handed_in_is_not_changed(self):
        line = list(LINE)
        answers(line)
        self.assertEqual(line, LINE)

    def test_nothing_is_kept(self):
        line = list(LINE)
        first = answers(line)
        answers([0, 100, 1, 97])
        first.append(5)
        self.assertEqual(answers(line), ANSWERS)

    def test_whole_numbers_alone(self):
        found = answers(list(LINE))
        self.assertIs(type(found), list)
        for number in found:
            self.assertIs(type(number), int)
        for part in ask(("kind", 2, "a"), ("true", "a=1", [1]), ("true", "!a=1", [1]), ("first", 1, 1, "a=2"),
                        ("given", 1, 1, "a=1", "a=2"), ("read", "a=1|a=2"), ("read", ""), ("spread", 1, 0),
                        ("kind", 2, "b"), ("keep", 2, 0, 1, "a=1", "a=2"), ("best", 2, 0, 1, "a=1"), ("deck",),
                        ("advise", 0, 1, "a=1", [1, 0]), ("advise", 0, 1, "a=1", [2, 0]), ("nth", 2, 3), ("number", [1, 3]),
                        ("deal", 5, 2), ("least", 0, 1, 1, 0, 2, 3, "a=1"), ("compare", 1, 1, "a=1", "a=2"),
                        ("compare", 1, 1, "a=1", "a=1"), ("compare", 1, 1, "a=2", "a=1")):
            for number in part:
                self.assertIs(type(number), int)

    def test_one_call(self):
        self.assertEqual(answers([2, 0]), [2, 0, 1])
        self.assertEqual(answers([9, 0, 0]), [1, -1])
        self.assertEqual(answers([19]), [2, 0, 0])
        self.assertEqual(answers([14, 0, 0]), [1, 0])

    def test_400_calls(self):
        calls = [("kind", 10, "a"), ("kind", 10, "b")] + [("count", n % 2, n % 7) for n in range(398)]
        found = ask(*calls)
        self.assertEqual(len(found), 400)
        self.assertEqual(found[-2:], [[0, 4 + 3], [0, 4 + 5]])

    def test_several_calls_on_one_deck(self):
        found = ask(("hand", 1, "a=1"), ("kind", 1, "a"), ("hand", 1, "a=1"), ("kind", 1, "b"), ("hand", 1, "a=1"),
                    ("kind", 1, "a"), ("after", 1, 1, "a=1"), ("count", 0, 0), ("hand", 1, "a=1"),
                    ("after", 1, 1, "b=1"), ("mean", 1, 1))
        self.assertEqual(found, [[-2], [0, 0], [0, 1, 1], [0, 1], [0, 1, 2], [-5], [0, 1, 1], [0, 1], [0, 0, 1], [-7],
                                 [0, 1, 1]])

    def test_long_lists(self):
        calls = helper.kinds({name: 20 for name in "abcde"})
        text = "a+b>=3&c<2|d+e=4|!(a=1&b=2)"
        calls += [("first", 7, 5, text), ("given", 7, 5, text, text), ("after", 7, 5, text)] * 10
        found = ask(*calls)
        self.assertEqual(found[5:8] * 10, found[5:])
        long_text = "|".join(["a+b+c+d+e>12"] * 76)
        calls = calls[:5] + [("after", 7, 5, long_text)] * 16
        self.assertLessEqual(len(flat(calls)), 17000)
        self.assertEqual(ask(*calls)[5:], [[0, 0, 1]] * 16)
        calls = calls[:5] + [("best", 7, 5, 5, text), ("keep", 7, 5, 5, text, text), ("least", 0, 1, 7, 5, 1, 1, text),
                             ("advise", 5, 5, text, [2, 2, 1, 1, 1]), ("compare", 7, 5, text, text)] * 10
        found = ask(*calls)
        self.assertEqual(found[5:10] * 10, found[5:])

    def test_several_calls_of_the_later_ones_on_one_deck(self):
        found = ask(("kind", 1, "a"), ("spread", 1, 0), ("kind", 1, "b"), ("spread", 1, 0), ("nth", 1, 1), ("count", 0, 2),
                    ("nth", 1, 1), ("number", [1, 2]), ("best", 1, 0, 1, "a=1"), ("advise", 0, 1, "a=1", [1, 0]),
                    ("kind", 1, "c"), ("advise", 0, 1, "a=1", [1, 0]), ("advise", 0, 1, "a=1", [1, 0, 0]),
                    ("keep", 1, 0, 1, "a=1", "c=1"), ("count", 2, 0), ("keep", 1, 0, 1, "a=1", "c=1"),
                    ("compare", 1, 0, "a=1", "b=1"), ("least", 1, 0, 1, 0, 1, 1, "b=1"), ("compare", 1, 0, "a=1", "b=1"),
                    ("deck",), ("deal", 0, 3))
        self.assertEqual(found[:8], [[0, 0], [-7], [0, 1], [0, 1, 4], [0, 1, 0, 1], [0, 3], [0, 1, 1, 0], [0, 2]])
        self.assertEqual(found[8:13], [[0, 7, 9, 1], [0, 0, 1, 2, 2, 3], [0, 2], [-1], [0, 1, 2, 3, 1, 2]])
        self.assertEqual(found[13:], [[0, 7, 24], [0, 3], [0, 0, 1], [0, 2], [0, 2, 1, 1], [0, 2], [0, 3, 2, 1, 0],
                                      [0, 1442695040888963407, 0, 1, 2, 2, 1, 0]])

    def test_deep_texts_under_few_calls_within_one_another(self):
        # Nothing that's nested deep is gone through by calls within one another.
        text = "a=1&(!(a=2|" * 19 + "a=3" + "))" * 19
        line = flat([("kind", 9, "a"), ("read", text), ("form", text), ("true", text, [1]), ("first", 2, 2, text),
                     ("keep", 2, 0, 2, text, text), ("best", 2, 0, 2, text), ("advise", 0, 2, text, [2]),
                     ("compare", 2, 2, text, text), ("kind", 9, "b"), ("least", 0, 1, 2, 2, 0, 1, text)])
        expected = answers(line)
        limit = sys.getrecursionlimit()
        depth = 0
        frame = sys._getframe()
        while frame:
            depth += 1
            frame = frame.f_back
        sys.setrecursionlimit(depth + 25)
        try:
            found = answers(line)
        finally:
            sys.setrecursionlimit(limit)
        self.assertEqual(found, expected)

    def test_prints_nothing(self):
        code = f"from deckodds.desk import answers; answers({LINE})"
        done = subprocess.run([sys.executable, "-c", code], capture_output=True, check=True)
        self.assertEqual((done.stdout, done.stderr), (b"", b""))


if __name__ == "__main__":
    unittest.main()
