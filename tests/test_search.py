"""count, first, clash, must, near: the searches over all papers."""

import itertools
import unittest

from paperbank.search import fewest_clashing, good_papers
from paperbank.state import Bank, Question, with_leave
from tests.helper import CLASH, COUNT, FIRST, GREATEST, LEAST, MUST, ask, enemies, item, items, last, near, plan, year

SEARCHES = (COUNT, FIRST, CLASH, MUST, near())
NO_PAPER = plan("all count 1 to 1\nall count 2 to 2")


class Edges(unittest.TestCase):
    def test_twelve_with_leave(self):
        self.assertEqual(ask(*items(12), *SEARCHES)[12:],
                         [[0, 4096], [0, 1, 0], [0, 0], [0, 0, 0], [0, 0, 0]])

    def test_thirteen_with_leave(self):
        self.assertEqual(ask(*items(13), *SEARCHES, near(0, 12))[13:], [[-8]] * 6)

    def test_refused_ahead_of_its_own_refusals(self):
        self.assertEqual(ask(*items(13), NO_PAPER, MUST, near())[14:], [[-8], [-8]])

    def test_refused_behind_minus_1(self):
        self.assertEqual(ask(*items(13), near(13), near(1, 0), near(1, 1))[13:], [[-1], [-1], [-1]])

    def test_no_question(self):
        self.assertEqual(ask(*SEARCHES), [[0, 1], [0, 1, 0], [0, 0], [0, 0, 0], [0, 0, 0]])

    def test_searches_change_nothing(self):
        begin = [*items(3), enemies(0, 1), plan("all count 1 to 2")]
        self.assertEqual(ask(*begin, *SEARCHES, *SEARCHES, year(4))[5:10], ask(*begin, *SEARCHES)[5:])

    def test_questions_without_leave_stand_in_no_paper(self):
        bank = Bank()
        bank.questions = [Question(0, 0, 0, 1, 1) for _ in range(14)]
        for number in range(0, 10):
            bank.questions[number].withdrawn = True
        bank.questions[10].years = [0]
        self.assertEqual(with_leave(bank), [11, 12, 13])
        self.assertEqual(good_papers(bank)[:5], [(), (11,), (12,), (13,), (11, 12)])
        self.assertEqual(len(good_papers(bank)), 8)
        self.assertIsNone(fewest_clashing(bank))


class Count(unittest.TestCase):
    def test_the_empty_paper_counts(self):
        self.assertEqual(last(*items(3), COUNT), [0, 8])
        self.assertEqual(last(*items(3), plan("all count 0 to 0"), COUNT), [0, 1])

    def test_enemies(self):
        self.assertEqual(last(*items(3), enemies(0, 2), COUNT), [0, 6])
        self.assertEqual(last(*items(3), enemies(0, 2), enemies(1, 0), enemies(2, 1), COUNT), [0, 4])

    def test_the_plan(self):
        self.assertEqual(last(*items(4), plan("all count 2 to 3"), COUNT), [0, 10])
        self.assertEqual(last(*items(4), plan("if question 0 then question 3"), COUNT), [0, 12])
        self.assertEqual(last(*items(4), plan("not question 0 with question 3"), COUNT), [0, 12])

    def test_none(self):
        self.assertEqual(last(*items(4), NO_PAPER, COUNT), [0, 0])


class First(unittest.TestCase):
    def test_the_empty_paper(self):
        self.assertEqual(last(*items(4), FIRST), [0, 1, 0])

    def test_none(self):
        self.assertEqual(last(*items(4), NO_PAPER, FIRST), [0, 0])

    def test_fewer_questions_first(self):
        bank = [item(m=1), item(m=2), item(m=3)]
        self.assertEqual(last(*bank, plan("all marks 3 to 3"), FIRST), [0, 1, 1, 2])

    def test_then_number_by_number(self):
        bank = [item(m=4), item(m=2), item(m=3), item(m=1)]
        self.assertEqual(last(*bank, plan("all marks 5 to 5"), FIRST), [0, 1, 2, 0, 3])
        self.assertEqual(last(*bank, plan("all marks 5 to 5\nquestion 0 count 0 to 0"), FIRST), [0, 1, 2, 1, 2])

    def test_number_by_number_and_not_as_a_sum(self):
        lines = "all count 2 to 2\nall marks 9 to 9"
        bank = [item(m=4), item(m=7), item(m=2), item(m=1), item(m=5)]
        self.assertEqual(last(*bank, plan(lines), FIRST), [0, 1, 2, 0, 4])

    def test_enemies(self):
        lines = plan("all count 2 to 2")
        self.assertEqual(last(*items(3), lines, enemies(0, 1), FIRST), [0, 1, 2, 0, 2])
        self.assertEqual(last(*items(3), lines, enemies(1, 0), enemies(2, 0), FIRST), [0, 1, 2, 1, 2])

    def test_the_papers_order_as_a_whole(self):
        bank = Bank()
        bank.questions = [Question(0, 0, 0, 1, 1) for _ in range(12)]
        wanted = [paper for size in range(13) for paper in itertools.combinations(range(12), size)]
        self.assertEqual(good_papers(bank), wanted)


class Clash(unittest.TestCase):
    def test_no_clash(self):
        self.assertEqual(last(*items(3), plan("all count 3 to 3\nall marks 3 to 9"), CLASH), [0, 0])

    def test_one_demand_alone(self):
        lines = "all count 1 to 1\nall count 2 to 2\nall count 9 to 9"
        self.assertEqual(last(*items(3), plan(lines), CLASH), [0, 1, 1, 2])

    def test_two_demands(self):
        lines = "all count 0 to 3\nall count 1 to 1\nall marks 0 to 9\nall count 2 to 2"
        self.assertEqual(last(*items(3), plan(lines), CLASH), [0, 1, 2, 1, 3])

    def test_three_demands(self):
        lines = "all marks 0 to 9\nquestion 0 count 1 to 1\nif question 0 then question 1\nnot question 0 with question 1"
        self.assertEqual(last(*items(3), plan(lines), CLASH), [0, 1, 3, 1, 2, 3])

    def test_the_first_of_as_few(self):
        lines = "all count 1 to 1\nall count 0 to 3\nall count 2 to 2\nall count 3 to 3"
        self.assertEqual(last(*items(3), plan(lines), CLASH), [0, 1, 2, 0, 2])
        lines = "all count 1 to 2\nquestion 0 count 1 to 1\nall count 2 to 3\nquestion 0 count 0 to 0\nall count 0 to 1"
        self.assertEqual(last(*items(3), plan(lines), CLASH), [0, 1, 2, 1, 3])
        self.assertEqual(last(*items(3), plan("all count 7 to 7\n" * 2), CLASH), [0, 1, 1, 0])

    def test_fewer_ahead_of_first(self):
        lines = "all count 1 to 1\nall count 2 to 2\nall count 5 to 5"
        self.assertEqual(last(*items(3), plan(lines), CLASH), [0, 1, 1, 2])

    def test_enemies_make_one(self):
        bank = [*items(3), plan("question 0 count 1 to 1\nall count 0 to 9\nquestion 2 count 1 to 1")]
        self.assertEqual(last(*bank, CLASH), [0, 0])
        self.assertEqual(last(*bank, enemies(0, 2), CLASH), [0, 1, 2, 0, 2])

    def test_all_ten_of_ten(self):
        lines = [f"question {number} count 1 to 1" for number in range(9)] + ["all count 0 to 8"]
        self.assertEqual(last(*items(9), plan("\n".join(lines)), CLASH), [0, 1, 10, *range(10)])

    def test_no_question(self):
        self.assertEqual(ask(plan("all count 0 to 1\nall count 1 to 1"), CLASH)[1], [0, 1, 1, 1])


class Must(unittest.TestCase):
    def test_in_all_and_in_none(self):
        lines = "question 1 count 1 to 1\nquestion 3 count 1 to 1\nquestion 0 count 0 to 0"
        self.assertEqual(last(*items(5), plan(lines), MUST), [0, 2, 1, 3, 1, 0])

    def test_enemies(self):
        lines = "question 1 count 1 to 1"
        self.assertEqual(last(*items(4), plan(lines), enemies(1, 3), enemies(0, 1), MUST), [0, 1, 1, 2, 0, 3])

    def test_the_empty_paper_alone(self):
        self.assertEqual(last(*items(3), plan("all count 0 to 0"), MUST), [0, 0, 3, 0, 1, 2])

    def test_neither(self):
        self.assertEqual(last(*items(3), plan("all count 1 to 2"), MUST), [0, 0, 0])

    def test_all(self):
        self.assertEqual(last(*items(3), plan("all count 3 to 3"), MUST), [0, 3, 0, 1, 2, 0])

    def test_no_good_paper(self):
        self.assertEqual(last(*items(3), NO_PAPER, MUST), [-4])


class Near(unittest.TestCase):
    def test_a_good_paper_itself(self):
        self.assertEqual(last(*items(4), near(1, 3)), [0, 0, 2, 1, 3])
        self.assertEqual(last(*items(4), near()), [0, 0, 0])

    def test_apart_both_ways(self):
        bank = [*items(5), plan("question 4 count 1 to 1\nquestion 0 count 0 to 0")]
        self.assertEqual(last(*bank, near(0, 2)), [0, 2, 2, 2, 4])
        self.assertEqual(last(*bank, near(0, 1, 2, 3)), [0, 2, 4, 1, 2, 3, 4])

    def test_ties_go_to_fewer_questions(self):
        self.assertEqual(last(*items(4), enemies(0, 1), near(0, 1)), [0, 1, 1, 0])
        lines = "not question 1 with question 2\nif question 1 then question 2"
        self.assertEqual(last(*items(4), plan(lines), near(0, 1, 3)), [0, 1, 2, 0, 3])
        lines = "if question 1 then question 2"
        self.assertEqual(last(*items(4), plan(lines), near(0, 1, 3)), [0, 1, 2, 0, 3])

    def test_ties_go_to_the_lesser_numbers(self):
        self.assertEqual(last(*items(4), plan("all count 1 to 1"), near()), [0, 1, 1, 0])
        self.assertEqual(last(*items(4), plan("all count 2 to 2"), near(1, 2, 3)), [0, 1, 2, 1, 2])
        self.assertEqual(last(*items(4), plan("all count 3 to 3"), near(2)), [0, 2, 3, 0, 1, 2])

    def test_nearer_ahead_of_first(self):
        self.assertEqual(last(*items(4), plan("all count 2 to 3"), near(1, 2, 3)), [0, 0, 3, 1, 2, 3])

    def test_the_paper_need_not_be_good(self):
        self.assertEqual(last(*items(3), enemies(0, 1), plan("all count 0 to 0"), near(0, 1, 2)), [0, 3, 0])

    def test_not_a_paper(self):
        for paper in ((3,), (-1,), (1, 0), (1, 1), (LEAST,), (0, GREATEST), tuple(range(1200))):
            self.assertEqual(last(*items(3), near(*paper)), [-1], paper)
            self.assertEqual(last(*items(3), NO_PAPER, near(*paper)), [-1], paper)

    def test_no_good_paper(self):
        self.assertEqual(last(*items(3), NO_PAPER, near(0)), [-4])


if __name__ == "__main__":
    unittest.main()
