"""use, withdraw, about, told, and who has leave over the years."""

import unittest

from tests.helper import (COUNT, FIRST, GREATEST, LEAST, TOLD, about, ask, enemies, item, items, last, leave, meets,
                          plan, use, withdraw, year)

NOT_QUESTIONS = (-1, 3, 20, LEAST, GREATEST)
NOT_PAPERS = ((3,), (-1,), (1, 0), (1, 1), (0, 1, 3), (LEAST,), (0, GREATEST), tuple(range(1200)))


def about_plain(withdrawn=0, leave_now=1, years=(), foes=()):
    return [0, 0, 0, 0, 1, 1, withdrawn, leave_now, len(years), *years, len(foes), *foes]


class Use(unittest.TestCase):
    def test_how_many_questions(self):
        self.assertEqual(ask(*items(3), use(0, 2), use(), use(1))[3:], [[0, 2], [0, 0], [0, 1]])
        self.assertEqual(ask(use()), [[0, 0]])

    def test_used_in_this_year(self):
        told = ask(*items(3), year(6), use(0, 2), about(0), about(1), about(2))
        self.assertEqual(told[5:], [about_plain(0, 0, [6]), about_plain(), about_plain(0, 0, [6])])

    def test_not_twice_in_one_year(self):
        told = ask(*items(2), use(0), use(0), use(0, 1), about(0), about(1))
        self.assertEqual(told[2:], [[0, 1], [-5], [-5], about_plain(0, 0, [0]), about_plain()])

    def test_several_years(self):
        told = ask(item(), use(0), year(1), use(0), year(4), use(0), year(100), about(0))
        self.assertEqual(told[-1], about_plain(0, 1, [0, 1, 5]))

    def test_more_than_twelve_with_leave(self):
        self.assertEqual(ask(*items(20), use(*range(20)), TOLD)[20:], [[0, 20], [0, 20, 0, 0, 0, 99, 0, 0]])

    def test_a_demand_does_not_hold(self):
        told = ask(*items(3), plan("all count 1 to 2\ntopic 0 marks 2 to 9"), use(), use(0), use(0, 1, 2), use(0, 1))
        self.assertEqual(told[4:], [[-5], [-5], [-5], [0, 2]])

    def test_enemies(self):
        for pair in ((0, 2), (2, 0)):
            told = ask(*items(3), enemies(*pair), use(0, 2), use(0, 1, 2), use(0, 1))
            self.assertEqual(told[4:], [[-5], [-5], [0, 2]])

    def test_withdrawn(self):
        self.assertEqual(ask(*items(3), withdraw(1), use(1), use(0, 1), use(0, 2))[4:], [[-5], [-5], [0, 2]])

    def test_not_a_paper(self):
        for paper in NOT_PAPERS:
            self.assertEqual(ask(*items(3), use(*paper), about(0))[3:], [[-1], about_plain()], paper)
        self.assertEqual(ask(use(0)), [[-1]])

    def test_not_a_paper_ahead_of_not_good(self):
        bank = [*items(3), plan("all count 9 to 9"), withdraw(0)]
        self.assertEqual(ask(*bank, use(1, 0), use(0, 0), use(0, 3), use(0))[5:], [[-1], [-1], [-1], [-5]])

    def test_a_refusal_changes_nothing(self):
        bank = [*items(4), enemies(1, 2), withdraw(3), plan("all count 0 to 2")]
        refused = [use(1, 2), use(0, 3), use(3), use(2, 0), use(0, 4), use(0, 1, 2)]
        tell = [TOLD, about(0), about(1), about(2), about(3), COUNT]
        told = ask(*bank, *tell, *refused, *tell)
        self.assertEqual(told[13:19], [[-5], [-5], [-5], [-1], [-1], [-5]])
        self.assertEqual(told[7:13], told[19:])


class LeaveOverYears(unittest.TestCase):
    def leaves(self, gap, most, *calls):
        return last(*items(2), leave(gap, most), *calls, TOLD)[8:]

    def test_without_a_gap(self):
        self.assertEqual(self.leaves(0, 99, use(0)), [1])
        self.assertEqual(self.leaves(0, 99, use(0), year(1)), [0, 1])

    def test_the_gap(self):
        self.assertEqual(self.leaves(3, 99, year(5), use(0), year(3)), [1])
        self.assertEqual(self.leaves(3, 99, year(5), use(0), year(4)), [0, 1])

    def test_the_gap_behind_the_last_use(self):
        used = [use(0), year(4), use(0)]
        self.assertEqual(self.leaves(3, 99, *used, year(3)), [1])
        self.assertEqual(self.leaves(3, 99, *used, year(4)), [0, 1])

    def test_the_most(self):
        used = [use(0), year(1), use(0), year(50)]
        self.assertEqual(self.leaves(0, 3, *used), [0, 1])
        self.assertEqual(self.leaves(0, 2, *used), [1])
        self.assertEqual(self.leaves(0, 2, *used, use(0), year(1)), [1])
        self.assertEqual(self.leaves(0, 1, use(0), year(100)), [1])

    def test_the_gap_and_the_most_told_later(self):
        used = [*items(3), use(0, 1), year(2), use(0), year(2)]
        self.assertEqual(ask(*used, leave(0, 99), leave(1, 99), leave(2, 99), leave(3, 99), leave(4, 99),
                             leave(50, 1), leave(0, 2), leave(0, 1), leave(0, 3))[7:],
                         [[0, 3], [0, 3], [0, 2], [0, 2], [0, 1], [0, 1], [0, 2], [0, 1], [0, 3]])

    def test_meets_and_the_searches(self):
        told = ask(*items(3), leave(2, 99), plan("all count 1 to 1"), use(0), meets(0), FIRST, COUNT, year(2), FIRST,
                   year(1), meets(0), FIRST, COUNT)
        self.assertEqual(told[6:], [[0, 0, 1, 0, 1], [0, 1, 1, 1], [0, 2], [0, 2], [0, 1, 1, 1], [0, 3],
                                    [0, 1, 1, 1, 1], [0, 1, 1, 0], [0, 3]])

    def test_withdrawn_for_good(self):
        self.assertEqual(self.leaves(0, 99, withdraw(0), year(100), year(100)), [1])


class Withdraw(unittest.TestCase):
    def test_withdrawn(self):
        told = ask(*items(2), withdraw(1), about(0), about(1), meets(1), TOLD)
        self.assertEqual(told[2:], [[0], about_plain(), about_plain(1, 0), [0, 0, 1, 0], [0, 2, 0, 0, 0, 99, 0, 1, 0]])

    def test_already_withdrawn(self):
        told = ask(*items(2), withdraw(1), withdraw(1), about(1), withdraw(0), withdraw(0))
        self.assertEqual(told[2:], [[0], [-3], about_plain(1, 0), [0], [-3]])

    def test_a_used_question(self):
        self.assertEqual(last(item(), year(2), use(0), withdraw(0), year(9), about(0)), about_plain(1, 0, [2]))

    def test_not_a_question(self):
        for wrong in NOT_QUESTIONS:
            told = ask(*items(3), withdraw(0), withdraw(wrong), TOLD)
            self.assertEqual(told[4:], [[-1], [0, 3, 0, 0, 0, 99, 0, 2, 1, 2]], wrong)
        self.assertEqual(ask(withdraw(0)), [[-1]])

    def test_it_stays_a_question(self):
        told = ask(*items(2), withdraw(0), enemies(0, 1), plan("question 0 count 0 to 1"), item())
        self.assertEqual(told[3:], [[0, 1], [0, 1], [0, 2]])

    def test_it_still_counts_towards_twenty(self):
        self.assertEqual(ask(*items(20), withdraw(0), item(), TOLD)[21][0], -6)


class About(unittest.TestCase):
    def test_a_new_question(self):
        self.assertEqual(last(item(), item(3, 4, 2, 77, 99), about(1)), [0, 3, 4, 2, 77, 99, 0, 1, 0, 0])
        self.assertEqual(last(item(11, 5, 4, 200, 300), about(0)), [0, 11, 5, 4, 200, 300, 0, 1, 0, 0])

    def test_enemies_rising_told_either_way_round(self):
        told = ask(*items(5), enemies(4, 1), enemies(1, 0), enemies(3, 1), enemies(0, 3), *[about(i) for i in range(5)])
        wanted = ((1, 3), (0, 3, 4), (), (0, 1), (1,))
        self.assertEqual(told[9:], [about_plain(foes=foes) for foes in wanted])

    def test_years_and_enemies(self):
        told = last(*items(3), enemies(2, 0), year(3), use(0), year(7), use(0, 1), about(0))
        self.assertEqual(told, about_plain(0, 0, [3, 10], [2]))

    def test_leave(self):
        used = [item(), leave(2, 2), use(0)]
        self.assertEqual(last(*used, about(0)), about_plain(0, 0, [0]))
        self.assertEqual(last(*used, year(2), about(0)), about_plain(0, 0, [0]))
        self.assertEqual(last(*used, year(3), about(0)), about_plain(0, 1, [0]))
        self.assertEqual(last(*used, year(3), use(0), year(90), about(0)), about_plain(0, 0, [0, 3]))

    def test_not_a_question(self):
        for wrong in NOT_QUESTIONS:
            self.assertEqual(ask(*items(3), about(wrong))[3:], [[-1]], wrong)
        self.assertEqual(ask(about(0)), [[-1]])

    def test_more_than_twelve_with_leave(self):
        self.assertEqual(last(*items(20), about(19)), about_plain())


class Told(unittest.TestCase):
    def test_at_the_beginning(self):
        self.assertEqual(ask(TOLD), [[0, 0, 0, 0, 0, 99, 0, 0]])

    def test_each_number(self):
        lines = plan("\nall count 1 to 6\n\nall marks 0 to 9\n \nif all then all")
        told = last(*items(6), enemies(1, 0), enemies(0, 2), lines, leave(4, 7), year(30), use(3), withdraw(1), TOLD)
        self.assertEqual(told, [0, 6, 2, 3, 4, 7, 30, 4, 0, 2, 4, 5])

    def test_refusals_change_none_of_them(self):
        bank = [*items(3), enemies(0, 1), plan("all count 1 to 1"), leave(1, 2), year(100), year(50), use(2), TOLD]
        refused = [item(12), enemies(1, 0), enemies(0, 0), plan("x"), leave(51, 1), leave(0, 0), year(51), year(0),
                   use(2), use(0, 1), use(1, 0), withdraw(3)]
        told = ask(*bank, *refused, TOLD)
        self.assertEqual(told[9], [0, 3, 1, 1, 1, 2, 150, 2, 0, 1])
        self.assertEqual(told[10:-1], [[-1], [-3], [-1], [-1001], [-1], [-1], [-7], [-1], [-5], [-5], [-1], [-1]])
        self.assertEqual(told[-1], told[9])

    def test_more_than_twelve_with_leave(self):
        self.assertEqual(last(*items(20), TOLD), [0, 20, 0, 0, 0, 99, 0, 20, *range(20)])


if __name__ == "__main__":
    unittest.main()
