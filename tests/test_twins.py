"""twins: two good papers without a question in common, as alike as can be."""

import unittest

from tests.helper import COUNT, TOLD, TWINS, ask, enemies, item, items, last, plan, use, withdraw, year

ONE_EACH = plan("all count 1 to 1")
# Each sum of minutes belongs to one paper alone, so that a span of minutes says how many papers are good.
DOUBLING = [item(u=minutes) for minutes in (1, 2, 4, 8, 16, 32, 64, 128, 256)]


class Unlikeness(unittest.TestCase):
    def of(self, one, other):
        told = last(one, other, ONE_EACH, TWINS)
        self.assertEqual(told[2:], [1, 0, 1, 1])
        self.assertEqual(last(other, one, ONE_EACH, TWINS), told)
        return told[1]

    def test_marks_on_one_topic(self):
        self.assertEqual(self.of(item(t=3, m=10), item(t=3, m=7)), 3)

    def test_marks_on_two_topics(self):
        self.assertEqual(self.of(item(t=0, m=10), item(t=11, m=7)), 17)
        self.assertEqual(self.of(item(t=0, m=10), item(t=1, m=10)), 20)

    def test_weights(self):
        self.assertEqual(self.of(item(h=1, m=10), item(h=4, m=10)), 30)
        self.assertEqual(self.of(item(h=2, m=10), item(h=4, m=5)), 5)

    def test_minutes(self):
        self.assertEqual(self.of(item(u=5), item(u=300)), 295)

    def test_kinds_say_nothing(self):
        self.assertEqual(self.of(item(k=0), item(k=5)), 0)

    def test_each_without_a_sign(self):
        self.assertEqual(self.of(item(m=10, u=5), item(m=7, u=8)), 6)
        self.assertEqual(self.of(item(h=0, m=10, u=20), item(h=4, m=9, u=1)), 1 + 36 + 19)

    def test_all_added_up(self):
        self.assertEqual(self.of(item(0, 0, 1, 10, 5), item(11, 0, 3, 7, 17)), 10 + 7 + 11 + 12)

    def test_papers_of_several_questions(self):
        bank = [item(0, 0, 1, 10, 5), item(1, 0, 2, 20, 6), item(0, 0, 3, 11, 7), item(2, 0, 4, 19, 8)]
        lines = "all count 2 to 2\nif question 0 then question 1\nif question 2 then question 3\n"
        lines += "if question 1 then question 0\nif question 3 then question 2"
        wanted = 1 + 20 + 19 + abs(50 - 109) + 4
        self.assertEqual(last(*bank, plan(lines), TWINS), [0, wanted, 2, 0, 1, 2, 2, 3])

    def test_sums_and_not_questions_are_compared(self):
        bank = [item(m=1, u=2), item(m=2, u=1), item(m=3, u=3)]
        self.assertEqual(last(*bank, plan("all marks 3 to 3"), TWINS), [0, 0, 1, 2, 2, 0, 1])


class Choice(unittest.TestCase):
    def test_the_least_unlikeness(self):
        bank = [item(m=10), item(m=50), item(m=90), item(m=53)]
        self.assertEqual(last(*bank, ONE_EACH, TWINS), [0, 3, 1, 1, 1, 3])

    def test_ties_go_to_the_first_paper_that_comes_first(self):
        bank = [item(m=5), item(m=9), item(m=9), item(m=5)]
        self.assertEqual(last(*bank, ONE_EACH, TWINS), [0, 0, 1, 0, 1, 3])

    def test_then_to_the_second_paper_that_comes_first(self):
        bank = [item(m=5), item(m=9), item(m=5), item(m=5)]
        self.assertEqual(last(*bank, ONE_EACH, TWINS), [0, 0, 1, 0, 1, 2])

    def test_ties_between_papers_of_unlike_size(self):
        bank = [item(m=2, u=2), item(m=2, u=2), item(m=4, u=4)]
        self.assertEqual(last(*bank, plan("all marks 4 to 4"), TWINS), [0, 0, 1, 2, 2, 0, 1])
        self.assertEqual(last(*bank, TWINS), [0, 0, 1, 0, 1, 1])

    def test_the_empty_paper_is_one_of_the_two(self):
        self.assertEqual(last(item(2, 0, 3, 5, 7), TWINS), [0, 5 + 15 + 7, 0, 1, 0])
        self.assertEqual(last(item(m=100, u=100), item(), TWINS), [0, 2, 0, 1, 1])

    def test_the_empty_paper_may_be_less_alike(self):
        self.assertEqual(last(*items(2), TWINS), [0, 0, 1, 0, 1, 1])

    def test_a_question_in_common(self):
        lines = plan("all count 2 to 2")
        bank = [item(m=1), item(m=1), item(m=1), item(m=90)]
        self.assertEqual(last(*bank, lines, TWINS), [0, 89, 2, 0, 1, 2, 2, 3])
        self.assertEqual(last(*bank[:3], lines, TWINS), [-4])

    def test_good_papers_alone(self):
        self.assertEqual(last(*items(4), ONE_EACH, withdraw(0), use(1), TWINS), [0, 0, 1, 2, 1, 3])
        self.assertEqual(last(*items(4), ONE_EACH, withdraw(0), use(1), year(1), TWINS), [0, 0, 1, 1, 1, 2])
        pairs = plan("all count 2 to 2")
        self.assertEqual(last(*items(4), pairs, enemies(1, 0), TWINS), [0, 0, 2, 0, 2, 2, 1, 3])

    def test_nothing_changes(self):
        told = ask(*items(4), TOLD, TWINS, TWINS, TOLD)[4:]
        self.assertEqual((told[0], told[1]), (told[3], told[2]))


class Refusals(unittest.TestCase):
    def test_none_without_a_question_in_common(self):
        self.assertEqual(last(*items(3), plan("question 1 count 1 to 1"), TWINS), [-4])

    def test_one_good_paper(self):
        self.assertEqual(last(*items(3), plan("all count 0 to 0"), TWINS), [-4])
        self.assertEqual(last(*items(3), plan("all count 3 to 3"), TWINS), [-4])
        self.assertEqual(ask(TWINS), [[-4]])

    def test_no_good_paper(self):
        self.assertEqual(last(*items(3), plan("all count 4 to 4"), TWINS), [-4])

    def test_300_good_papers(self):
        self.assertEqual(ask(*DOUBLING, plan("all minutes 0 to 299"), COUNT, TWINS)[10:],
                         [[0, 300], [0, 1, 1, 0, 1, 1]])

    def test_301_good_papers(self):
        self.assertEqual(ask(*DOUBLING, plan("all minutes 0 to 300"), COUNT, TWINS)[10:], [[0, 301], [-8]])

    def test_too_many_papers_ahead_of_no_such_two(self):
        lines = plan("question 9 count 1 to 1")
        self.assertEqual(ask(*DOUBLING, item(), lines, COUNT, TWINS)[11:], [[0, 512], [-8]])
        self.assertEqual(last(*items(7), plan("question 6 count 1 to 1"), TWINS), [-4])

    def test_too_many_with_leave(self):
        self.assertEqual(last(*items(13), plan("all count 14 to 14"), TWINS), [-8])
        self.assertEqual(last(*items(13), ONE_EACH, TWINS), [-8])
        self.assertEqual(last(*items(13), ONE_EACH, use(0), TWINS), [0, 0, 1, 1, 1, 2])


if __name__ == "__main__":
    unittest.main()
