"""Questions without leave in a bank, and what each call makes of them."""

import unittest

from paperbank.bank import answer_call
from paperbank.plans import read_plan
from paperbank.state import Bank, Question
from tests.helper import text

MEETS, COUNT, FIRST, CLASH, MUST, NEAR = range(5, 11)


def bank_of(how_many, withdrawn=(), used=(), plan=""):
    bank = Bank()
    bank.questions = [Question(0, 0, 0, 1, 1) for _ in range(how_many)]
    for number in withdrawn:
        bank.questions[number].withdrawn = True
    for number in used:
        bank.questions[number].years = [bank.year]
    bank.demands = read_plan(text(plan), how_many)[1]
    return bank


class WithoutLeave(unittest.TestCase):
    def test_leave_keeps_the_gap_and_the_most(self):
        bank = bank_of(2, used=[0])
        bank.year = 4
        self.assertEqual(answer_call(bank, 3, [3, 2], []), [0, 2])
        self.assertEqual((bank.gap, bank.most), (3, 2))
        self.assertEqual(answer_call(bank, 3, [4, 2], []), [0, 1])
        self.assertEqual(answer_call(bank, 3, [3, 1], []), [0, 1])
        self.assertEqual(answer_call(bank, 3, [51, 9], []), [-1])
        self.assertEqual((bank.gap, bank.most), (3, 1))

    def test_a_passing_year_gives_leave_back(self):
        bank = bank_of(1, used=[0])
        self.assertEqual(answer_call(bank, MEETS, [], [0]), [0, 0, 1, 0])
        answer_call(bank, 4, [1], [])
        self.assertEqual(answer_call(bank, MEETS, [], [0]), [0, 1, 1, 1])

    def test_meets(self):
        bank = bank_of(3, withdrawn=[1], used=[2], plan="all count 1 to 1")
        self.assertEqual(answer_call(bank, MEETS, [], [0]), [0, 1, 1, 1, 1])
        self.assertEqual(answer_call(bank, MEETS, [], [1]), [0, 0, 1, 0, 1])
        self.assertEqual(answer_call(bank, MEETS, [], [2]), [0, 0, 1, 0, 1])
        self.assertEqual(answer_call(bank, MEETS, [], [0, 2]), [0, 0, 1, 0, 0])

    def test_thirteen_of_which_twelve_have_leave(self):
        bank = bank_of(13, withdrawn=[5])
        self.assertEqual(answer_call(bank, COUNT, [], []), [0, 4096])
        bank.questions[5].withdrawn = False
        self.assertEqual(answer_call(bank, COUNT, [], []), [-8])
        bank.questions[5].years = [0]
        self.assertEqual(answer_call(bank, COUNT, [], []), [0, 4096])

    def test_first(self):
        bank = bank_of(4, withdrawn=[0], used=[2], plan="all count 2 to 2")
        self.assertEqual(answer_call(bank, FIRST, [], []), [0, 1, 2, 1, 3])

    def test_clash(self):
        bank = bank_of(3, withdrawn=[1], plan="all count 0 to 3\nquestion 1 count 1 to 1")
        self.assertEqual(answer_call(bank, CLASH, [], []), [0, 1, 1, 1])

    def test_must_tells_none_of_them(self):
        bank = bank_of(4, withdrawn=[1], used=[3], plan="question 0 count 1 to 1\nquestion 2 count 0 to 0")
        self.assertEqual(answer_call(bank, MUST, [], []), [0, 1, 0, 1, 2])

    def test_near_may_be_asked_with_them(self):
        bank = bank_of(4, withdrawn=[1], used=[3])
        self.assertEqual(answer_call(bank, NEAR, [], [0, 1, 3]), [0, 2, 1, 0])


if __name__ == "__main__":
    unittest.main()
