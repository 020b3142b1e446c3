"""How calls and answers are laid out, and that answers keeps nothing."""

import contextlib
import io
import unittest

from paperbank.bank import answers
from tests.helper import (CLASH, COUNT, FIRST, MUST, SHOWN, TOLD, TWINS, about, enemies, hardest, item, lasts, leave,
                          meets, near, nth, plan, score, text, use, withdraw, year)

EVERY_CALL = [
    item(1, 2, 3, 4, 5), item(2, 0, 0, 10, 20), item(11, 5, 4, 200, 300), enemies(0, 2),
    plan("all count 1 to 2\n topic 2 marks 10 to 10"), leave(3, 4), year(7), meets(0, 1), COUNT, FIRST,
    CLASH, MUST, near(0, 2), TWINS, hardest(1, 2), nth(2), SHOWN, score(0, 1), lasts(8), use(0, 1), about(1),
    withdraw(2), TOLD,
]
LINES = text("all count 1 to 2\ntopic 2 marks 10 to 10\n")


def flat(calls):
    return [number for call in calls for number in call]


class Layout(unittest.TestCase):
    def test_no_call_has_no_answer(self):
        self.assertEqual(answers([]), [])

    def test_each_answer_stands_behind_its_length(self):
        self.assertEqual(answers(flat(EVERY_CALL)), flat([
            [2, 0, 0], [2, 0, 1], [2, 0, 2], [2, 0, 1], [2, 0, 2], [2, 0, 3], [2, 0, 7],
            [6, 0, 1, 1, 1, 1, 1], [2, 0, 3], [4, 0, 1, 1, 1], [2, 0, 0], [4, 0, 1, 1, 0], [5, 0, 2, 2, 0, 1],
            [1, -4], [6, 0, 6, 7, 2, 0, 1], [4, 0, 2, 1, 2], [len(LINES) + 2, 0, len(LINES), *LINES],
            [12, 0, 14, 25, 6, 7, 3, 1, 4, 2, 10, 11, 0], [2, 0, 1], [2, 0, 2],
            [11, 0, 2, 0, 0, 10, 20, 0, 0, 1, 7, 0], [1, 0], [8, 0, 3, 1, 2, 3, 4, 7, 0],
        ]))

    def test_every_call_is_in_that_list(self):
        self.assertEqual({call[0] for call in EVERY_CALL}, set(range(21)))

    def test_a_refusal_is_one_number(self):
        self.assertEqual(answers(item(12) + enemies(0, 1) + meets(0) + year(1)), [1, -1, 1, -1, 1, -1, 2, 0, 1])

    def test_rows_are_passed_over_when_refused(self):
        refused = plan([256] * 1200) + meets(*range(1200)) + near(5) + use(20, 1) + score(*[9] * 7)
        self.assertEqual(answers(refused + COUNT), [1, -1, 1, -1, 1, -1, 1, -1, 1, -1, 2, 0, 1])

    def test_eighty_calls(self):
        self.assertEqual(answers(COUNT * 80), [2, 0, 1] * 80)

    def test_every_call_alone_on_a_new_object(self):
        for call, told in (
                (item(), [0, 0]), (enemies(0, 1), [-1]), (plan(""), [0, 0]), (leave(0, 1), [0, 0]), (year(1), [0, 1]),
                (meets(), [0, 1, 1, 1]), (COUNT, [0, 1]), (FIRST, [0, 1, 0]), (CLASH, [0, 0]), (MUST, [0, 0, 0]),
                (near(), [0, 0, 0]), (TWINS, [-4]), (use(), [0, 0]), (SHOWN, [0, 0]), (about(0), [-1]),
                (score(), [0, 0, 0, 0, 1, 0]), (hardest(1, 1), [-4]), (withdraw(0), [-1]), (nth(0), [0, 0]),
                (lasts(1), [0, 1]), (TOLD, [0, 0, 0, 0, 0, 99, 0, 0])):
            self.assertEqual(answers(call), [len(told), *told], call)
            self.assertEqual(answers(call + COUNT)[len(told) + 1:][0], 2, call)


class NothingKept(unittest.TestCase):
    def test_the_list_stays_as_it_was(self):
        row = flat(EVERY_CALL)
        before = list(row)
        answers(row)
        self.assertEqual(row, before)

    def test_the_list_is_not_changed_for_a_while_either(self):
        class Watched(list):
            def refuse(self, *given):
                raise AssertionError("changed")
            append = extend = insert = pop = remove = clear = sort = reverse = refuse
            __setitem__ = __delitem__ = __iadd__ = __imul__ = refuse
        self.assertEqual(answers(Watched(flat(EVERY_CALL))), answers(flat(EVERY_CALL)))

    def test_twice_the_same(self):
        row = flat(EVERY_CALL)
        self.assertEqual(answers(row), answers(row))

    def test_a_new_object_each_time(self):
        answers(flat(EVERY_CALL))
        self.assertEqual(answers(item() + COUNT + year(1) + meets(0)), [2, 0, 0, 2, 0, 2, 2, 0, 1, 4, 0, 1, 1, 1])
        self.assertEqual(answers(TOLD + SHOWN), [8, 0, 0, 0, 0, 0, 99, 0, 0, 2, 0, 0])

    def test_what_is_given_back_may_be_changed(self):
        row = flat(EVERY_CALL)
        told = answers(row)
        kept = list(told)
        told.clear()
        self.assertEqual(answers(row), kept)

    def test_whole_numbers_alone(self):
        told = answers(flat(EVERY_CALL))
        self.assertIs(type(told), list)
        self.assertEqual({type(number) for number in told}, {int})

    def test_nothing_is_printed(self):
        out = io.StringIO()
        err = io.StringIO()
        with contextlib.redirect_stdout(out), contextlib.redirect_stderr(err):
            answers(flat(EVERY_CALL))
        self.assertEqual((out.getvalue(), err.getvalue()), ("", ""))


if __name__ == "__main__":
    unittest.main()
