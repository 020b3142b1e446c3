"""meets: each kind of demand and each SEL over one paper."""

import unittest

from tests.helper import GREATEST, LEAST, ask, enemies, item, items, last, meets, plan

BANK = [
    item(0, 0, 0, 10, 5),
    item(1, 1, 1, 20, 7),
    item(1, 2, 2, 30, 11),
    item(2, 0, 3, 40, 13),
    item(11, 5, 4, 200, 300),
]


def held(line, *paper):
    return last(*BANK, plan(line), meets(*paper))[4]


class Answer(unittest.TestCase):
    def test_without_a_plan(self):
        self.assertEqual(ask(meets(), *BANK, meets(), meets(0, 1, 2, 3, 4))[-1], [0, 1, 1, 1])
        self.assertEqual(ask(meets()), [[0, 1, 1, 1]])

    def test_enemies(self):
        calls = BANK + [enemies(3, 1)]
        self.assertEqual(ask(*calls, meets(1, 2, 3), meets(1, 3), meets(1), meets(0, 2, 3))[6:],
                         [[0, 0, 0, 1], [0, 0, 0, 1], [0, 1, 1, 1], [0, 1, 1, 1]])

    def test_one_number_for_each_demand_in_their_order(self):
        lines = "all count 2 to 2\nall count 3 to 3\ntopic 1 count 1 to 2\nall marks 0 to 1"
        self.assertEqual(last(*BANK, plan(lines), meets(0, 1)), [0, 0, 1, 1, 1, 0, 1, 0])

    def test_good_asks_for_all(self):
        calls = BANK + [plan("all count 2 to 2"), enemies(0, 1)]
        self.assertEqual(ask(*calls, meets(0, 1), meets(0), meets(0, 2))[7:],
                         [[0, 0, 0, 1, 1], [0, 0, 1, 1, 0], [0, 1, 1, 1, 1]])

    def test_not_a_paper(self):
        for paper in ((5,), (-1,), (0, 0), (1, 0), (0, 2, 1), (0, 1, 5), (LEAST,), (GREATEST,), (0, 1, 1, 2),
                      tuple(range(1200))):
            self.assertEqual(last(*BANK, meets(*paper)), [-1], paper)
        self.assertEqual(ask(meets(0)), [[-1]])

    def test_twenty_questions(self):
        self.assertEqual(last(*items(20), plan("all count 20 to 20"), meets(*range(20))), [0, 1, 1, 1, 1])


class Sels(unittest.TestCase):
    def fitting(self, sel):
        return [number for number in range(5) if held(f"{sel} count 1 to 1", number) == 1]

    def test_each_sel(self):
        self.assertEqual(self.fitting("all"), [0, 1, 2, 3, 4])
        self.assertEqual(self.fitting("topic 1"), [1, 2])
        self.assertEqual(self.fitting("topic 11"), [4])
        self.assertEqual(self.fitting("topic 3"), [])
        self.assertEqual(self.fitting("kind 0"), [0, 3])
        self.assertEqual(self.fitting("hard 2"), [2])
        self.assertEqual(self.fitting("harder 0"), [0, 1, 2, 3, 4])
        self.assertEqual(self.fitting("harder 2"), [2, 3, 4])
        self.assertEqual(self.fitting("harder 4"), [4])
        self.assertEqual(self.fitting("question 3"), [3])


class Spans(unittest.TestCase):
    def test_the_edges(self):
        for line, paper, total in (("all count", (0, 1, 4), 3), ("topic 1 count", (0, 1, 2, 3), 2),
                                   ("all marks", (0, 1, 2), 60), ("topic 1 marks", (0, 1, 2), 50),
                                   ("all minutes", (0, 1, 2, 3), 36), ("harder 2 minutes", (0, 1, 2, 4), 311)):
            self.assertEqual(held(f"{line} {total} to {total}", *paper), 1, line)
            self.assertEqual(held(f"{line} 0 to {total}", *paper), 1, line)
            self.assertEqual(held(f"{line} {total} to 9999", *paper), 1, line)
            self.assertEqual(held(f"{line} 0 to {total - 1}", *paper), 0, line)
            self.assertEqual(held(f"{line} {total + 1} to 9999", *paper), 0, line)

    def test_the_empty_paper_has_nothing(self):
        for word in ("count", "marks", "minutes"):
            self.assertEqual(held(f"all {word} 0 to 0"), 1)
            self.assertEqual(held(f"all {word} 1 to 9"), 0)


class If(unittest.TestCase):
    def test_none_fits_the_first(self):
        self.assertEqual(held("if topic 1 then topic 2"), 1)
        self.assertEqual(held("if topic 1 then topic 2", 0), 1)
        self.assertEqual(held("if topic 1 then topic 2", 3), 1)

    def test_one_fits_the_second(self):
        self.assertEqual(held("if topic 1 then topic 2", 1, 3), 1)
        self.assertEqual(held("if topic 1 then topic 2", 1, 2), 0)
        self.assertEqual(held("if topic 1 then topic 2", 0, 1), 0)

    def test_perhaps_the_same(self):
        self.assertEqual(held("if topic 1 then hard 2", 2), 1)
        self.assertEqual(held("if topic 1 then hard 2", 1), 0)
        self.assertEqual(held("if topic 1 then hard 2", 1, 2), 1)


class Not(unittest.TestCase):
    def test_one_of_each(self):
        self.assertEqual(held("not topic 1 with topic 2", 1, 3), 0)
        self.assertEqual(held("not topic 2 with topic 1", 1, 3), 0)
        self.assertEqual(held("not topic 1 with topic 2", 1, 2), 1)
        self.assertEqual(held("not topic 1 with topic 2", 0, 3), 1)
        self.assertEqual(held("not topic 1 with topic 2"), 1)

    def test_a_question_is_not_two(self):
        self.assertEqual(held("not topic 1 with hard 2", 2), 1)
        self.assertEqual(held("not all with all", 2), 1)
        self.assertEqual(held("not topic 1 with topic 1", 0, 1), 1)

    def test_two_that_fit_the_same(self):
        self.assertEqual(held("not topic 1 with topic 1", 1, 2), 0)
        self.assertEqual(held("not all with all", 0, 4), 0)

    def test_one_that_fits_both_and_one_that_fits_one(self):
        self.assertEqual(held("not topic 1 with hard 2", 1, 2), 0)
        self.assertEqual(held("not hard 2 with topic 1", 1, 2), 0)
        self.assertEqual(held("not question 2 with harder 2", 1, 2), 1)
        self.assertEqual(held("not question 2 with harder 2", 2, 3), 0)


if __name__ == "__main__":
    unittest.main()
