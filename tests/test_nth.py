"""nth: the good papers by their number."""

import itertools
import unittest

from tests.helper import COUNT, GREATEST, LEAST, TOLD, ask, enemies, item, items, last, nth, plan, use, withdraw


class Nth(unittest.TestCase):
    def test_all_in_their_order(self):
        papers = [paper for size in range(4) for paper in itertools.combinations(range(3), size)]
        told = ask(*items(3), *[nth(k) for k in range(9)])[3:]
        self.assertEqual(told, [[0, len(paper), *paper] for paper in papers] + [[-4]])

    def test_good_papers_alone(self):
        bank = [*items(5), enemies(3, 0), withdraw(1), use(4), plan("all count 1 to 3")]
        self.assertEqual(ask(*bank, COUNT, *[nth(k) for k in range(6)])[9:],
                         [[0, 5], [0, 1, 0], [0, 1, 2], [0, 1, 3], [0, 2, 0, 2], [0, 2, 2, 3], [-4]])

    def test_compared_number_by_number(self):
        bank = [item(m=4), item(m=2), item(m=3), item(m=1), item(m=6)]
        self.assertEqual(ask(*bank, plan("all marks 7 to 7"), *[nth(k) for k in range(4)])[6:],
                         [[0, 2, 0, 2], [0, 2, 3, 4], [0, 3, 0, 1, 3], [-4]])

    def test_the_last_of_4096(self):
        self.assertEqual(ask(*items(12), nth(0), nth(1), nth(12), nth(13), nth(4095), nth(4096))[12:],
                         [[0, 0], [0, 1, 0], [0, 1, 11], [0, 2, 0, 1], [0, 12, *range(12)], [-4]])

    def test_no_question(self):
        self.assertEqual(ask(nth(0), nth(1)), [[0, 0], [-4]])

    def test_none_good(self):
        self.assertEqual(last(*items(3), plan("all count 4 to 4"), nth(0)), [-4])

    def test_a_great_number(self):
        self.assertEqual(last(*items(3), nth(GREATEST)), [-4])

    def test_below_0(self):
        for wrong in (-1, -8, LEAST):
            self.assertEqual(last(*items(3), nth(wrong)), [-1], wrong)

    def test_the_order_of_refusals(self):
        bank = [*items(13), plan("all count 14 to 14")]
        self.assertEqual(ask(*bank, nth(-1), nth(0), nth(GREATEST))[14:], [[-1], [-8], [-8]])
        self.assertEqual(ask(*bank, withdraw(4), nth(-1), nth(0))[15:], [[-1], [-4]])

    def test_nothing_changes(self):
        told = ask(*items(3), TOLD, nth(5), nth(9), nth(-1), TOLD)
        self.assertEqual(told[3], told[7])


if __name__ == "__main__":
    unittest.main()
