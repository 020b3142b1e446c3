"""shown: the plan's demands, told as lines."""

import unittest

from tests.helper import SHOWN, ask, item, items, last, plan, text, withdraw

SELS = ("all", "topic 0", "topic 11", "kind 0", "kind 5", "hard 0", "hard 4", "harder 0", "harder 4", "question 0",
        "question 19")


def as_told(words):
    row = text(words)
    return [0, len(row), *row]


def shown(words, questions=20):
    return last(*items(questions), plan(words), SHOWN)


class Shown(unittest.TestCase):
    def same(self, words):
        self.assertEqual(shown(words), as_told(words))

    def test_no_demand(self):
        self.assertEqual(ask(SHOWN), [[0, 0]])
        for words in ("", "\n\n", "   ", " \n \n"):
            self.assertEqual(shown(words), [0, 0], words)

    def test_each_kind_of_demand(self):
        self.same("all count 1 to 2\nall marks 3 to 40\nall minutes 5 to 600\n")
        self.same("if all then kind 1\nnot hard 1 with all\n")

    def test_each_sel_in_each_place(self):
        for sel in SELS:
            for other in SELS:
                self.same(f"if {sel} then {other}\nnot {other} with {sel}\n")
            self.same(f"{sel} count 0 to 1\n{sel} marks 0 to 1\n{sel} minutes 0 to 1\n")

    def test_numbers(self):
        self.same("all marks 0 to 0\nall marks 0 to 9999\nall marks 9999 to 9999\n")
        self.same("all marks 10 to 1000\nall count 7 to 7\n")

    def test_one_blank_between_words(self):
        words = "   topic  3   count 0    to  4   \n if   kind 2  then     question   1 \nnot  all   with  harder 3"
        self.assertEqual(shown(words),
                         as_told("topic 3 count 0 to 4\nif kind 2 then question 1\nnot all with harder 3\n"))

    def test_lines_without_words_are_not_shown(self):
        self.assertEqual(shown("\n  \nall count 0 to 1\n\n\n   \nif all then all\n\n"),
                         as_told("all count 0 to 1\nif all then all\n"))

    def test_a_line_feed_behind_the_last(self):
        self.assertEqual(shown("all count 0 to 1"), as_told("all count 0 to 1\n"))

    def test_in_their_order_and_each_as_often_as_told(self):
        self.same("all count 2 to 2\nall count 1 to 1\nall count 2 to 2\n")
        self.same("".join(f"question {19 - place} marks {place} to {place * 100}\n" for place in range(10)))

    def test_a_refused_plan_leaves_the_earlier(self):
        right = "topic 1 marks 2 to 3\nnot kind 1 with kind 2\n"
        refused = ("all count 0 to 1\nx", [300], " " * 1001, "all count 0 to 1\n" * 11, "question 3 count 0 to 1")
        for words in refused:
            told = ask(*items(3), plan(right), plan(words), SHOWN)
            self.assertLess(told[4][0], 0)
            self.assertEqual(told[5], as_told(right), words)

    def test_a_later_plan(self):
        told = ask(item(), plan("all count 1 to 1"), plan("kind 2 count 0 to 0"), SHOWN, plan(""), SHOWN)
        self.assertEqual(told[3::2], [as_told("kind 2 count 0 to 0\n"), [0, 0]])

    def test_a_withdrawn_question_stays_in_the_plan(self):
        words = "question 1 count 0 to 1\n"
        self.assertEqual(last(*items(2), plan(words), withdraw(1), SHOWN), as_told(words))

    def test_what_is_shown_is_that_plan_again(self):
        first = shown("  if  topic 1 then   hard 2\n\n all  marks   10 to 20")
        self.assertEqual(shown(first[2:]), first)


if __name__ == "__main__":
    unittest.main()
