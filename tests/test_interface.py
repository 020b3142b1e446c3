"""How calls and answers are laid out, and that answers keeps nothing."""

import contextlib
import io
import unittest

from paperbank.bank import answers
from tests.helper import CLASH, COUNT, FIRST, MUST, enemies, item, leave, meets, near, plan, year

EVERY_CALL = [
    item(1, 2, 3, 4, 5), item(2, 0, 0, 10, 20), item(11, 5, 4, 200, 300), enemies(0, 2),
    plan("all count 1 to 2\n topic 2 marks 10 to 10"), leave(3, 4), year(7), meets(0, 1), COUNT, FIRST,
    CLASH, MUST, near(0, 2),
]


def flat(calls):
    return [number for call in calls for number in call]


class Layout(unittest.TestCase):
    def test_no_call_has_no_answer(self):
        self.assertEqual(answers([]), [])

    def test_each_answer_stands_behind_its_length(self):
        self.assertEqual(answers(flat(EVERY_CALL)), flat([
            [2, 0, 0], [2, 0, 1], [2, 0, 2], [2, 0, 1], [2, 0, 2], [2, 0, 3], [2, 0, 7],
            [6, 0, 1, 1, 1, 1, 1], [2, 0, 3], [4, 0, 1, 1, 1], [2, 0, 0], [4, 0, 1, 1, 0], [5, 0, 2, 2, 0, 1],
        ]))

    def test_a_refusal_is_one_number(self):
        self.assertEqual(answers(item(12) + enemies(0, 1) + meets(0) + year(1)), [1, -1, 1, -1, 1, -1, 2, 0, 1])

    def test_rows_are_passed_over_when_refused(self):
        self.assertEqual(answers(plan([256] * 1200) + meets(*range(1200)) + near(5) + COUNT),
                         [1, -1, 1, -1, 1, -1, 2, 0, 1])

    def test_eighty_calls(self):
        self.assertEqual(answers(COUNT * 80), [2, 0, 1] * 80)

    def test_a_call_that_is_not_there_yet(self):
        for call in ([11], [12, 2, 0, 1], [13], [14, 0], [15, 1, 0], [16, 1, 1], [17, 0], [18, 0], [19, 1], [20]):
            self.assertEqual(answers(call + year(1)), [1, -9, 2, 0, 1], call)


class NothingKept(unittest.TestCase):
    def test_the_list_stays_as_it_was(self):
        row = flat(EVERY_CALL)
        before = list(row)
        answers(row)
        self.assertEqual(row, before)

    def test_the_list_is_not_changed_for_a_while_either(self):
        class Watched(list):
            def refuse(self, *given):
                raise AssertionError("changed")
            append = extend = insert = pop = remove = clear = sort = reverse = refuse
            __setitem__ = __delitem__ = __iadd__ = __imul__ = refuse
        self.assertEqual(answers(Watched(flat(EVERY_CALL))), answers(flat(EVERY_CALL)))

    def test_twice_the_same(self):
        row = flat(EVERY_CALL)
        self.assertEqual(answers(row), answers(row))

    def test_a_new_object_each_time(self):
        answers(flat(EVERY_CALL))
        self.assertEqual(answers(item() + COUNT + year(1) + meets(0)), [2, 0, 0, 2, 0, 2, 2, 0, 1, 4, 0, 1, 1, 1])

    def test_what_is_given_back_may_be_changed(self):
        row = flat(EVERY_CALL)
        told = answers(row)
        kept = list(told)
        told.clear()
        self.assertEqual(answers(row), kept)

    def test_whole_numbers_alone(self):
        told = answers(flat(EVERY_CALL))
        self.assertIs(type(told), list)
        self.assertEqual({type(number) for number in told}, {int})

    def test_nothing_is_printed(self):
        out = io.StringIO()
        err = io.StringIO()
        with contextlib.redirect_stdout(out), contextlib.redirect_stderr(err):
            answers(flat(EVERY_CALL))
        self.assertEqual((out.getvalue(), err.getvalue()), ("", ""))


if __name__ == "__main__":
    unittest.main()
