"""Questions without leave in a bank, and what calls 0 to 10 make of them."""

import unittest

from tests.helper import (CLASH, COUNT, FIRST, MUST, TOLD, ask, enemies, item, items, last, leave, meets, near, plan,
                          use, withdraw, year)


class WithoutLeave(unittest.TestCase):
    def test_leave_keeps_the_gap_and_the_most(self):
        told = ask(*items(2), use(0), year(4), leave(3, 2), TOLD, leave(4, 2), leave(3, 1), leave(51, 9), TOLD)
        self.assertEqual(told[4:], [[0, 2], [0, 2, 0, 0, 3, 2, 4, 2, 0, 1], [0, 1], [0, 1], [-1],
                                    [0, 2, 0, 0, 3, 1, 4, 1, 1]])

    def test_a_passing_year_gives_leave_back(self):
        self.assertEqual(ask(item(), use(0), meets(0), year(1), meets(0))[2:], [[0, 0, 1, 0], [0, 1], [0, 1, 1, 1]])

    def test_meets(self):
        bank = [*items(3), withdraw(1), use(2), plan("all count 1 to 1")]
        self.assertEqual(ask(*bank, meets(0), meets(1), meets(2), meets(0, 2))[6:],
                         [[0, 1, 1, 1, 1], [0, 0, 1, 0, 1], [0, 0, 1, 0, 1], [0, 0, 1, 0, 0]])

    def test_meets_tells_enemies_apart_from_leave(self):
        bank = [*items(3), withdraw(1), enemies(0, 1)]
        self.assertEqual(ask(*bank, meets(0, 1), meets(1, 2), meets(0, 2))[5:],
                         [[0, 0, 0, 0], [0, 0, 1, 0], [0, 1, 1, 1]])

    def test_thirteen_of_which_twelve_have_leave(self):
        searches = [COUNT, FIRST, CLASH, MUST, near()]
        wanted = [[0, 4096], [0, 1, 0], [0, 0], [0, 0, 0], [0, 0, 0]]
        self.assertEqual(ask(*items(13), withdraw(5), *searches)[14:], wanted)
        self.assertEqual(ask(*items(13), use(5), *searches)[14:], wanted)
        self.assertEqual(ask(*items(13), use(5), year(1), *searches)[15:], [[-8]] * 5)

    def test_first(self):
        bank = [*items(4), withdraw(0), use(2), plan("all count 2 to 2")]
        self.assertEqual(last(*bank, FIRST), [0, 1, 2, 1, 3])

    def test_clash(self):
        lines = plan("all count 0 to 3\nquestion 1 count 1 to 1")
        self.assertEqual(last(*items(3), lines, withdraw(1), CLASH), [0, 1, 1, 1])
        self.assertEqual(ask(*items(3), lines, use(1), CLASH, year(1), CLASH)[5:], [[0, 1, 1, 1], [0, 1], [0, 0]])

    def test_must_tells_none_of_them(self):
        bank = [*items(4), withdraw(1), use(3), plan("question 0 count 1 to 1\nquestion 2 count 0 to 0")]
        self.assertEqual(last(*bank, MUST), [0, 1, 0, 1, 2])

    def test_near_may_be_asked_with_them(self):
        bank = [*items(4), withdraw(1), use(3)]
        self.assertEqual(last(*bank, near(0, 1, 3)), [0, 2, 1, 0])

    def test_a_paper_may_stand_on_other_numbers_than_0_to_11(self):
        bank = [*items(20), *[withdraw(i) for i in range(0, 16)], plan("all count 3 to 3")]
        self.assertEqual(ask(*bank, COUNT, FIRST, near(19))[37:],
                         [[0, 4], [0, 1, 3, 16, 17, 18], [0, 2, 3, 16, 17, 19]])


if __name__ == "__main__":
    unittest.main()
