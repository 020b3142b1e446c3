"""item, enemies, leave, year: what they answer, refuse and leave as it was."""

import unittest

from paperbank.state import Bank, Question, all_with_leave, has_leave, with_leave
from tests.helper import COUNT, GREATEST, LEAST, ask, enemies, item, items, last, leave, meets, plan, year

LOWS = (0, 0, 0, 1, 1)
HIGHS = (11, 5, 4, 200, 300)


class Item(unittest.TestCase):
    def test_numbered_from_0_as_told(self):
        self.assertEqual(ask(*items(3)), [[0, 0], [0, 1], [0, 2]])

    def test_the_edges_of_the_ranges(self):
        self.assertEqual(ask(item(*LOWS), item(*HIGHS)), [[0, 0], [0, 1]])

    def test_out_of_range(self):
        for place in range(5):
            for wrong in (LOWS[place] - 1, HIGHS[place] + 1, LEAST, GREATEST):
                numbers = list(LOWS)
                numbers[place] = wrong
                self.assertEqual(ask(item(*numbers), item()), [[-1], [0, 0]], numbers)

    def test_twenty_and_no_more(self):
        told = ask(*items(21), item(12), enemies(0, 19), enemies(0, 20))
        self.assertEqual(told[:20], [[0, number] for number in range(20)])
        self.assertEqual(told[20:], [[-6], [-1], [0, 1], [-1]])

    def test_each_value_is_kept_in_its_place(self):
        lines = "topic 3 count 1 to 1\nkind 4 count 1 to 1\nhard 2 count 1 to 1\nall marks 77 to 77\nall minutes 99 to 99"
        self.assertEqual(last(item(3, 4, 2, 77, 99), plan(lines), meets(0)), [0, 1, 1, 1, 1, 1, 1, 1, 1])


class Enemies(unittest.TestCase):
    def test_how_many_pairs(self):
        told = ask(*items(3), enemies(0, 1), enemies(2, 1), enemies(0, 2))
        self.assertEqual(told[3:], [[0, 1], [0, 2], [0, 3]])

    def test_already_enemies_either_way_round(self):
        told = ask(*items(3), enemies(1, 0), enemies(1, 0), enemies(0, 1), enemies(1, 2))
        self.assertEqual(told[3:], [[0, 1], [-3], [-3], [0, 2]])

    def test_not_two_unlike_questions(self):
        for pair in ((0, 0), (0, 2), (2, 0), (-1, 0), (0, -1), (2, 2), (LEAST, 0), (0, GREATEST)):
            told = ask(*items(2), enemies(*pair), meets(0, 1), enemies(0, 1))
            self.assertEqual(told[2:], [[-1], [0, 1, 1, 1], [0, 1]], pair)

    def test_no_questions(self):
        self.assertEqual(ask(enemies(0, 1)), [[-1]])

    def test_refused_for_its_numbers_first(self):
        self.assertEqual(last(*items(2), enemies(0, 1), enemies(1, 1)), [-1])

    def test_enemies_both_ways_round(self):
        self.assertEqual(last(*items(3), enemies(2, 0), meets(0, 2)), [0, 0, 0, 1])
        self.assertEqual(last(*items(3), enemies(0, 2), meets(0, 1)), [0, 1, 1, 1])


class Leave(unittest.TestCase):
    def test_how_many_have_leave(self):
        self.assertEqual(ask(leave(0, 99), *items(2), leave(50, 1)), [[0, 0], [0, 0], [0, 1], [0, 2]])

    def test_out_of_range(self):
        for numbers in ((-1, 1), (51, 1), (0, 0), (0, 100), (0, -1), (LEAST, 5), (5, GREATEST)):
            self.assertEqual(ask(item(), leave(*numbers), leave(50, 99), leave(0, 1)),
                             [[0, 0], [-1], [0, 1], [0, 1]], numbers)


class HasLeave(unittest.TestCase):
    def bank(self, year_now, gap, most, years):
        bank = Bank()
        bank.year = year_now
        bank.gap = gap
        bank.most = most
        question = Question(0, 0, 0, 1, 1)
        question.years = years
        bank.questions = [Question(0, 0, 0, 1, 1), question]
        return bank

    def has(self, year_now, gap, most, years):
        bank = self.bank(year_now, gap, most, years)
        return has_leave(bank, bank.questions[1])

    def test_the_object_at_the_beginning(self):
        bank = Bank()
        self.assertEqual((bank.year, bank.gap, bank.most), (0, 0, 99))
        self.assertEqual((bank.questions, len(bank.enemies), bank.demands), ([], 0, []))

    def test_never_used(self):
        self.assertTrue(self.has(0, 50, 1, []))

    def test_the_year_is_greater_than_the_use_and_the_gap(self):
        self.assertFalse(self.has(0, 0, 99, [0]))
        self.assertTrue(self.has(1, 0, 99, [0]))
        self.assertFalse(self.has(8, 3, 99, [5]))
        self.assertTrue(self.has(9, 3, 99, [5]))

    def test_each_year_of_use_counts(self):
        self.assertFalse(self.has(9, 3, 99, [1, 6]))
        self.assertFalse(self.has(9, 3, 99, [6, 1]))
        self.assertTrue(self.has(10, 3, 99, [1, 6]))

    def test_used_fewer_times_than_most(self):
        self.assertTrue(self.has(50, 0, 3, [1, 2]))
        self.assertFalse(self.has(50, 0, 2, [1, 2]))

    def test_withdrawn(self):
        bank = self.bank(0, 0, 99, [])
        bank.questions[0].withdrawn = True
        self.assertEqual(with_leave(bank), [1])
        self.assertFalse(all_with_leave(bank, [0, 1]))
        self.assertTrue(all_with_leave(bank, [1]))


class Year(unittest.TestCase):
    def test_years_pass(self):
        self.assertEqual(ask(year(1), year(5), year(94)), [[0, 1], [0, 6], [0, 100]])

    def test_at_most_200(self):
        self.assertEqual(ask(year(100), year(99), year(2), year(1), year(1)),
                         [[0, 100], [0, 199], [-7], [0, 200], [-7]])

    def test_out_of_range(self):
        for wrong in (0, 101, -1, LEAST, GREATEST):
            self.assertEqual(ask(year(wrong), year(1)), [[-1], [0, 1]], wrong)

    def test_its_range_comes_first(self):
        self.assertEqual(ask(year(100), year(100), year(101), year(0), year(100))[2:], [[-1], [-1], [-7]])


class RefusalsChangeNothing(unittest.TestCase):
    def test_all_stays(self):
        refused = [item(0, 0, 0, 0, 1), enemies(0, 1), enemies(1, 1), plan("all"), plan([300]), leave(1, 0), year(0)]
        begin = [*items(3), enemies(0, 1), plan("all count 2 to 3")]
        self.assertEqual(ask(*begin, *refused, meets(0, 1), meets(0, 2), COUNT, item(), year(3))[12:],
                         [[0, 0, 0, 1, 1], [0, 1, 1, 1, 1], [0, 2], [0, 3], [0, 3]])


if __name__ == "__main__":
    unittest.main()
