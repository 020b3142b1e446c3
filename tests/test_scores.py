"""score and hardest: marks, minutes, mean hardness, topics."""

import itertools
import unittest
from fractions import Fraction

from tests.helper import (GREATEST, LEAST, TOLD, ask, enemies, hardest, item, items, last, leave, plan, score, use,
                          withdraw)

ONE_EACH = plan("all count 1 to 1")


def graded(*gradings):
    return [item(h=h, m=m) for h, m in gradings]


class Score(unittest.TestCase):
    def mean(self, *gradings):
        told = last(*graded(*gradings), score(*range(len(gradings))))
        self.assertEqual(told[1:3], [sum(m for _, m in gradings), len(gradings)])
        return tuple(told[3:5])

    def test_no_question(self):
        self.assertEqual(ask(score()), [[0, 0, 0, 0, 1, 0]])

    def test_the_empty_paper(self):
        self.assertEqual(last(item(t=7, h=4), item(t=1), score()), [0, 0, 0, 0, 1, 2, 7, 0, 1, 0])

    def test_marks_and_minutes(self):
        bank = [item(m=10, u=300), item(m=200, u=7), item(m=1, u=11)]
        self.assertEqual(last(*bank, score(0, 2)), [0, 11, 311, 0, 1, 1, 0, 11])
        self.assertEqual(last(*bank, score(0, 1, 2)), [0, 211, 318, 0, 1, 1, 0, 211])

    def test_the_mean_in_lowest_terms(self):
        self.assertEqual(self.mean((1, 10), (4, 20)), (3, 1))
        self.assertEqual(self.mean((1, 6), (2, 4)), (7, 5))
        self.assertEqual(self.mean((3, 8)), (3, 1))
        self.assertEqual(self.mean((1, 3), (0, 6)), (1, 3))
        self.assertEqual(self.mean((1, 1), (0, 200)), (1, 201))
        self.assertEqual(self.mean((4, 199), (3, 200)), (1396, 399))

    def test_no_weight(self):
        self.assertEqual(self.mean((0, 12)), (0, 1))
        self.assertEqual(self.mean((0, 12), (0, 7)), (0, 1))

    def test_topics_in_the_order_in_which_questions_first_have_them(self):
        bank = [item(t=5, m=3), item(t=2, m=4), item(t=5, m=6), item(t=11, m=7), item(t=2, m=9), item(t=0, m=11)]
        self.assertEqual(last(*bank, score(*range(6)))[5:], [4, 5, 9, 2, 13, 11, 7, 0, 11])
        self.assertEqual(last(*bank, score(2, 4))[5:], [4, 5, 6, 2, 9, 11, 0, 0, 0])

    def test_withdrawn_questions_have_topics_too(self):
        bank = [item(t=5, m=3), item(t=2, m=4), item(t=5, m=6)]
        self.assertEqual(last(*bank, withdraw(1), score(0, 2)), [0, 9, 2, 0, 1, 2, 5, 9, 2, 0])
        self.assertEqual(last(*bank, withdraw(0), score(0, 1)), [0, 7, 2, 0, 1, 2, 5, 3, 2, 4])

    def test_twelve_topics(self):
        bank = [item(t=11 - number % 12, m=number + 1) for number in range(20)]
        told = last(*bank, score(*range(20)))
        self.assertEqual(told[5], 12)
        self.assertEqual(told[6::2], list(range(11, -1, -1)))
        self.assertEqual(told[7::2], [2 * n + 14 if n < 8 else n + 1 for n in range(12)])

    def test_the_paper_need_not_be_good(self):
        bank = [*items(3), enemies(0, 1), plan("all count 9 to 9"), leave(50, 1), withdraw(2)]
        self.assertEqual(last(*bank, score(0, 1, 2)), [0, 3, 3, 0, 1, 1, 0, 3])

    def test_not_a_paper(self):
        for paper in ((3,), (-1,), (1, 0), (1, 1), (LEAST,), (0, GREATEST), tuple(range(1200))):
            self.assertEqual(last(*items(3), score(*paper)), [-1], paper)
        self.assertEqual(ask(score(0)), [[-1]])


class Hardest(unittest.TestCase):
    GRADES = graded((0, 1), (1, 1), (2, 1), (3, 1), (4, 1))

    def of(self, bank, n, d):
        return last(*bank, ONE_EACH, hardest(n, d))

    def test_the_very_mean(self):
        for hardness in range(5):
            self.assertEqual(self.of(self.GRADES, hardness * 7, 7), [0, hardness, 1, 1, hardness])

    def test_a_target_on_either_side(self):
        self.assertEqual(self.of(self.GRADES, 9, 4), [0, 2, 1, 1, 2])
        self.assertEqual(self.of(self.GRADES, 11, 4), [0, 3, 1, 1, 3])
        self.assertEqual(self.of(self.GRADES, 7, 4), [0, 2, 1, 1, 2])
        self.assertEqual(self.of(self.GRADES, 2499, 1000), [0, 2, 1, 1, 2])
        self.assertEqual(self.of(self.GRADES, 2501, 1000), [0, 3, 1, 1, 3])

    def test_as_far_on_either_side(self):
        self.assertEqual(self.of(graded((1, 1), (3, 1)), 2, 1), [0, 1, 1, 1, 0])
        self.assertEqual(self.of(graded((3, 1), (1, 1)), 2, 1), [0, 3, 1, 1, 0])
        self.assertEqual(self.of(self.GRADES, 5, 2), [0, 2, 1, 1, 2])

    def test_below_and_above_all(self):
        bank = graded((2, 1), (1, 5), (3, 2))
        self.assertEqual(last(*bank, hardest(0, 1)), [0, 1, 1, 1, 1])
        self.assertEqual(last(*bank, hardest(4000, 1)), [0, 3, 1, 1, 2])
        self.assertEqual(last(*bank, hardest(4000, 1000)), [0, 3, 1, 1, 2])

    def test_ties_go_to_the_first_paper(self):
        self.assertEqual(last(*graded((0, 1), (2, 3), (2, 9), (4, 1)), hardest(2, 1)), [0, 2, 1, 1, 1])
        self.assertEqual(last(*graded((0, 1), (1, 1), (3, 1), (4, 1)), hardest(4, 2)), [0, 2, 1, 2, 0, 3])
        self.assertEqual(last(*graded((2, 7), (2, 1)), hardest(4, 1)), [0, 2, 1, 1, 0])

    def test_several_questions_are_weighed_by_their_marks(self):
        self.assertEqual(last(*graded((1, 6), (2, 4)), hardest(3, 2)), [0, 7, 5, 2, 0, 1])
        self.assertEqual(last(*graded((0, 3), (4, 1)), hardest(1, 1)), [0, 1, 1, 2, 0, 1])

    def test_no_two_means_are_taken_as_one(self):
        bank = graded((4, 199), (3, 200), (3, 199), (4, 200), (2, 197), (1, 193))
        for n, d in ((7, 2), (3491, 999), (1396, 399), (2857, 1000), (1, 1000)):
            target = Fraction(n, d)
            best = None
            for size in range(1, 7):
                for paper in itertools.combinations(range(6), size):
                    weight = sum(bank[i][3] * bank[i][4] for i in paper)
                    mean = Fraction(weight, sum(bank[i][4] for i in paper))
                    if best is None or abs(mean - target) < abs(best[0] - target):
                        best = (mean, paper)
            mean, paper = best
            self.assertEqual(last(*bank, hardest(n, d)), [0, mean.numerator, mean.denominator, len(paper), *paper])

    def test_no_weight(self):
        self.assertEqual(last(*graded((0, 5), (0, 9)), hardest(4, 1)), [0, 0, 1, 1, 0])

    def test_good_papers_alone(self):
        bank = [*self.GRADES, ONE_EACH, withdraw(2), use(3)]
        self.assertEqual(last(*bank, hardest(3, 1)), [0, 4, 1, 1, 4])
        self.assertEqual(last(*bank, hardest(2, 1)), [0, 1, 1, 1, 1])
        pairs = [*graded((0, 1), (4, 1), (3, 1)), plan("all count 2 to 2"), enemies(1, 0)]
        self.assertEqual(last(*pairs, hardest(2, 1)), [0, 3, 2, 2, 0, 2])

    def test_the_empty_paper_is_never_told(self):
        self.assertEqual(last(item(h=4), hardest(0, 1)), [0, 4, 1, 1, 0])
        self.assertEqual(last(item(h=4), plan("all count 0 to 0"), hardest(0, 1)), [-4])
        self.assertEqual(ask(hardest(0, 1)), [[-4]])

    def test_no_good_paper(self):
        self.assertEqual(last(*items(3), plan("all count 4 to 4"), hardest(1, 1)), [-4])

    def test_the_ranges(self):
        for n, d in ((0, 1), (4000, 1), (0, 1000), (4000, 1000)):
            self.assertEqual(last(item(), hardest(n, d)), [0, 0, 1, 1, 0])
        for n, d in ((-1, 1), (4001, 1), (1, 0), (1, 1001), (1, -1), (LEAST, 1), (GREATEST, 1), (1, LEAST),
                     (1, GREATEST)):
            self.assertEqual(last(item(), hardest(n, d)), [-1], (n, d))

    def test_the_order_of_refusals(self):
        none_good = [*items(13), plan("all count 14 to 14")]
        self.assertEqual(ask(*none_good, hardest(4001, 1), hardest(1, 0), hardest(1, 1))[14:], [[-1], [-1], [-8]])
        self.assertEqual(last(*items(13), withdraw(0), hardest(1, 1)), [0, 0, 1, 1, 1])

    def test_nothing_changes(self):
        told = ask(*self.GRADES, TOLD, hardest(1, 3), score(0, 1), TOLD)
        self.assertEqual(told[5], told[8])


if __name__ == "__main__":
    unittest.main()
