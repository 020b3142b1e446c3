"""lasts: how many papers could be used, a year one."""

import unittest

from tests.helper import (COUNT, FIRST, GREATEST, LEAST, SHOWN, TOLD, about, ask, enemies, item, items, lasts, last,
                          leave, plan, use, withdraw, year)

ONE_EACH = plan("all count 1 to 1")
AT_LEAST_ONE = plan("all count 1 to 20")


class Lasts(unittest.TestCase):
    def test_n_at_most(self):
        told = ask(*items(2), ONE_EACH, *[lasts(n) for n in range(1, 9)])
        self.assertEqual(told[3:], [[0, n] for n in range(1, 9)])

    def test_one(self):
        self.assertEqual(last(item(), ONE_EACH, lasts(1)), [0, 1])
        self.assertEqual(last(item(), plan("all count 2 to 2"), lasts(1)), [0, 0])

    def test_the_empty_paper_is_used_too(self):
        self.assertEqual(ask(lasts(8)), [[0, 8]])
        self.assertEqual(last(*items(3), leave(50, 1), lasts(8)), [0, 8])

    def test_no_good_paper(self):
        self.assertEqual(last(*items(3), plan("all count 4 to 4"), lasts(8)), [0, 0])

    def test_the_plan_cannot_be_met_any_more(self):
        self.assertEqual(last(*items(3), ONE_EACH, leave(50, 99), lasts(8)), [0, 3])
        self.assertEqual(last(*items(5), plan("all count 2 to 2"), leave(50, 99), lasts(8)), [0, 2])
        self.assertEqual(last(*items(3), ONE_EACH, leave(50, 99), lasts(2)), [0, 2])

    def test_the_most(self):
        self.assertEqual(last(*items(2), ONE_EACH, leave(0, 1), lasts(8)), [0, 2])
        self.assertEqual(last(*items(2), ONE_EACH, leave(0, 3), lasts(8)), [0, 6])
        self.assertEqual(last(*items(2), ONE_EACH, leave(0, 4), lasts(8)), [0, 8])

    def test_the_gap(self):
        self.assertEqual(last(*items(3), ONE_EACH, leave(2, 99), lasts(8)), [0, 8])
        self.assertEqual(last(*items(3), ONE_EACH, leave(3, 99), lasts(8)), [0, 3])
        self.assertEqual(last(*items(8), ONE_EACH, leave(7, 99), lasts(8)), [0, 8])

    def test_each_time_the_first_good_one(self):
        bank = [item(m=3), item(m=1), item(m=2), item(m=3), plan("all marks 3 to 3"), leave(50, 99)]
        self.assertEqual(last(*bank, lasts(8)), [0, 3])

    def test_not_those_that_would_last_longest(self):
        # Two papers of marks 1 and 2 would do, but the first one takes both of marks 1.
        bank = [item(m=1), item(m=1), item(m=2), item(m=2), plan("all marks 2 to 3\nall count 2 to 2"), leave(50, 99)]
        self.assertEqual(last(*bank, lasts(8)), [0, 1])

    def test_used_ahead_of_it(self):
        used = [*items(3), ONE_EACH, leave(1, 2), use(0), year(1), use(1), year(1)]
        self.assertEqual(last(*used, lasts(8)), [0, 3])
        self.assertEqual(last(*items(2), ONE_EACH, leave(1, 99), use(0), lasts(8)), [0, 1])
        self.assertEqual(last(*items(2), ONE_EACH, leave(50, 99), use(0), use(1), lasts(8)), [0, 0])

    def test_it_begins_in_this_year(self):
        self.assertEqual(last(item(), ONE_EACH, use(0), lasts(8)), [0, 0])
        self.assertEqual(last(item(), ONE_EACH, use(0), year(1), lasts(8)), [0, 8])

    def test_enemies_and_withdrawn(self):
        bank = [*items(4), plan("all count 2 to 2"), leave(50, 99)]
        self.assertEqual(last(*bank, lasts(8)), [0, 2])
        self.assertEqual(last(*bank, enemies(3, 2), lasts(8)), [0, 1])
        self.assertEqual(last(*bank, withdraw(0), lasts(8)), [0, 1])


class TooManyLater(unittest.TestCase):
    def test_more_than_twelve_in_the_next_year(self):
        bank = [*items(14), use(0, 1)]
        self.assertEqual(ask(*bank, lasts(1), lasts(8), year(1), lasts(8))[15:], [[0, 1], [0, 1], [0, 1], [-8]])

    def test_more_than_twelve_some_years_later(self):
        bank = [*items(14), leave(3, 99), use(0, 1)]
        self.assertEqual(last(*bank, lasts(8)), [0, 4])
        self.assertEqual(last(*bank, year(2), lasts(8)), [0, 2])
        self.assertEqual(last(*bank, lasts(3)), [0, 3])

    def test_twelve_is_not_too_many(self):
        self.assertEqual(last(*items(13), withdraw(0), use(1, 2), lasts(8)), [0, 8])
        self.assertEqual(last(*items(12), lasts(8)), [0, 8])

    def test_used_papers_keep_it_at_twelve(self):
        bank = [*items(13), AT_LEAST_ONE, leave(1, 99), use(12)]
        self.assertEqual(last(*bank, lasts(8)), [0, 8])
        self.assertEqual(last(*bank[:-2], use(12), lasts(8)), [0, 1])

    def test_too_many_at_once(self):
        self.assertEqual(last(*items(13), lasts(1)), [-8])


class LastYears(unittest.TestCase):
    def test_at_the_year_200(self):
        bank = [item(), ONE_EACH, year(100), year(100)]
        self.assertEqual(ask(*bank, lasts(1), lasts(8), TOLD)[4:], [[0, 1], [0, 8], [0, 1, 0, 1, 0, 99, 200, 1, 0]])

    def test_past_it(self):
        bank = [*items(3), ONE_EACH, leave(2, 99), year(100), year(97)]
        self.assertEqual(last(*bank, lasts(8)), [0, 8])
        self.assertEqual(last(*bank, leave(3, 99), lasts(8)), [0, 3])

    def test_past_it_leave_comes_back(self):
        bank = [*items(14), leave(2, 99), year(100), year(100), use(0, 1)]
        self.assertEqual(last(*bank, lasts(8)), [0, 3])


class Refusals(unittest.TestCase):
    def test_the_range(self):
        for wrong in (0, 9, -1, LEAST, GREATEST):
            self.assertEqual(last(item(), lasts(wrong)), [-1], wrong)

    def test_the_range_ahead_of_too_many(self):
        self.assertEqual(ask(*items(13), lasts(0), lasts(9), lasts(8))[13:], [[-1], [-1], [-8]])


class NothingChanges(unittest.TestCase):
    def test_all_stays(self):
        bank = [*items(4), enemies(0, 1), AT_LEAST_ONE, leave(1, 3), year(3), use(2), year(2), use(3), withdraw(1)]
        tell = [TOLD, SHOWN, COUNT, FIRST, about(0), about(1), about(2), about(3)]
        told = ask(*bank, *tell, lasts(8), lasts(1), lasts(8), lasts(9), *tell)
        self.assertEqual(told[-12:-8], [[0, 6], [0, 1], [0, 6], [-1]])
        self.assertEqual(told[12:20], told[-8:])

    def test_the_papers_can_be_used_behind_it(self):
        bank = [*items(2), ONE_EACH, leave(50, 99), lasts(8)]
        self.assertEqual(ask(*bank, use(0), year(1), use(1), year(1), lasts(8))[4:],
                         [[0, 2], [0, 1], [0, 1], [0, 1], [0, 2], [0, 0]])


if __name__ == "__main__":
    unittest.main()
