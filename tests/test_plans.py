"""plan: how its text is parted, what is right, and at which line it's wrong."""

import unittest

from tests.helper import COUNT, GREATEST, LEAST, ask, item, items, last, meets, plan, text

RIGHT = "all count 0 to 20"


def read(words, questions=3):
    return last(*items(questions), plan(words))


class Parting(unittest.TestCase):
    def test_no_demand(self):
        for words in ("", "\n", " ", "   \n\n  \n"):
            self.assertEqual(read(words), [0, 0], words)

    def test_lines_without_words_are_numbered_and_say_nothing(self):
        self.assertEqual(read("\n  \n" + RIGHT + "\n\n" + RIGHT + "\n"), [0, 2])
        self.assertEqual(read("\n  \n" + RIGHT + "\n\nall"), [-1005])

    def test_many_blanks(self):
        self.assertEqual(read("   all    count  0   to     20   "), [0, 1])

    def test_other_bytes_part_nothing(self):
        for sign in "\t\r\x0b\x0c\x00\x85\xa0":
            self.assertEqual(read("all" + sign + "count 0 to 20"), [-1001], repr(sign))
            self.assertEqual(read(RIGHT + sign), [-1001], repr(sign))
            self.assertEqual(read(sign), [-1001], repr(sign))
            self.assertEqual(read(RIGHT + sign + RIGHT), [-1001], repr(sign))

    def test_the_first_wrong_line_is_told(self):
        for before in range(5):
            self.assertEqual(read((RIGHT + "\n") * before + "x\ny\n" + RIGHT), [-1001 - before])

    def test_ten_demands_and_no_more(self):
        self.assertEqual(read("\n".join([RIGHT] * 10)), [0, 10])
        self.assertEqual(read("\n" + (RIGHT + "\n \n") * 10), [0, 10])
        self.assertEqual(read("\n".join([RIGHT] * 11)), [-1011])
        self.assertEqual(read("\n" + (RIGHT + "\n\n") * 11), [-1022])
        self.assertEqual(read((RIGHT + "\n") * 10 + "x"), [-1011])
        self.assertEqual(read((RIGHT + "\n") * 8 + "x\n" + (RIGHT + "\n") * 8), [-1009])

    def test_bytes(self):
        for wrong in (-1, 256, LEAST, GREATEST, 10 + 256, 32 + 256):
            self.assertEqual(read(text(RIGHT) + [wrong]), [-1], wrong)
            self.assertEqual(read(text("x\n") + [wrong]), [-1], wrong)
        for byte in range(256):
            self.assertEqual(read([byte]), [0, 0] if byte in (10, 32) else [-1001], byte)
            self.assertEqual(read(text(RIGHT) + [10, byte]), [0, 1] if byte in (10, 32) else [-1002], byte)

    def test_at_most_1000_bytes(self):
        self.assertEqual(read(RIGHT + " " * (1000 - len(RIGHT))), [0, 1])
        self.assertEqual(read(RIGHT + " " * (1001 - len(RIGHT))), [-1])
        self.assertEqual(read(" " * 1200), [-1])
        self.assertEqual(read("\n" * 999 + "x"), [-2000])
        self.assertEqual(read("x" * 1000), [-1001])
        self.assertEqual(read("x" * 1001), [-1])


class Spelling(unittest.TestCase):
    def right(self, *lines):
        for line in lines:
            self.assertEqual(read(line), [0, 1], line)

    def wrong(self, *lines):
        for line in lines:
            self.assertEqual(read(RIGHT + "\n" + line), [-1002], line)

    def test_each_kind_of_demand(self):
        self.right("all count 0 to 1", "all marks 5 to 10", "all minutes 0 to 9999",
                   "if all then all", "not all with all")

    def test_each_sel_in_each_place(self):
        sels = ("all", "topic 11", "kind 5", "hard 4", "harder 4", "question 2")
        for sel in sels:
            for other in sels:
                self.right(f"if {sel} then {other}", f"not {sel} with {other}")
            self.right(f"{sel} count 1 to 2", f"{sel} marks 1 to 2", f"{sel} minutes 1 to 2")

    def test_a_word_too_many_or_too_few(self):
        for right in ("all count 0 to 1", "topic 1 marks 5 to 10", "if all then kind 1", "if kind 1 then all",
                      "not hard 2 with harder 3", "not all with all"):
            self.right(right)
            words = right.split(" ")
            for place in range(len(words)):
                self.wrong(" ".join(words[:place] + words[place + 1:]))
                for more in ("all", "0", "to", "then", "with", "if", "not"):
                    self.wrong(" ".join(words[:place] + [more] + words[place:]))
            self.wrong(right + " 1", right + " all", right + " to", f"{right} {right}")

    def test_other_words(self):
        self.wrong("some count 0 to 1", "ALL count 0 to 1", "all Count 0 to 1", "all counts 0 to 1",
                   "all count 0 till 1", "all hardness 0 to 1", "topics 1 count 0 to 1", "if all with all",
                   "not all then all", "If all then all", "all", "if", "not", "then", "topic", "count 0 to 1",
                   "all 0 count 0 to 1", "if all 1 then all", "all count 0 - 1", "all count 0to1", "allcount 0 to 1")

    def test_how_numbers_are_spelled(self):
        self.right("all marks 0 to 0", "all marks 9999 to 9999", "all marks 10 to 1000", "all marks 7 to 7")
        for bad in ("00", "01", "007", "0000", "10000", "00001", "99999", "-1", "+1", "1.0", "a", "1a", "a1", "1_0",
                    "0x1", "\xb2", "\xb9", "\xbd"):
            self.wrong(f"all marks {bad} to 9999", f"all marks 0 to {bad}", f"topic {bad} count 0 to 1",
                       f"if topic {bad} then all", f"not all with topic {bad}")

    def test_a_at_most_b(self):
        self.right("all count 3 to 3", "all count 9 to 10")
        self.wrong("all count 4 to 3", "all marks 10 to 9", "all minutes 1 to 0")

    def test_the_ranges_of_n(self):
        for word, highest in (("topic", 11), ("kind", 5), ("hard", 4), ("harder", 4), ("question", 2)):
            self.right(f"{word} 0 count 0 to 1", f"{word} {highest} count 0 to 1")
            for bad in (highest + 1, 100, 9999):
                self.wrong(f"{word} {bad} count 0 to 1", f"if {word} {bad} then all", f"not all with {word} {bad}")

    def test_a_question_that_there_is_then(self):
        line = "question 1 count 0 to 1"
        self.assertEqual(ask(plan("question 0 count 0 to 1"), item(), plan(line), item(), plan(line)),
                         [[-1001], [0, 0], [-1001], [0, 1], [0, 1]])


class ThePlanIsThisOne(unittest.TestCase):
    def test_a_later_plan_takes_the_place(self):
        told = ask(item(), plan("all count 1 to 1\nall count 0 to 0"), meets(0), plan("all count 0 to 5"), meets(0),
                   plan(""), meets(0))
        self.assertEqual(told[2::2], [[0, 0, 1, 1, 1, 0], [0, 1, 1, 1, 1], [0, 1, 1, 1]])

    def test_a_refused_plan_changes_nothing(self):
        for refused in ("all count 0 to 0\nx", [0, 256], " " * 1001, (RIGHT + "\n") * 11):
            told = ask(item(), plan("all count 1 to 1"), plan(refused), meets(0), COUNT)
            self.assertEqual(told[3:], [[0, 1, 1, 1, 1], [0, 1]], refused)


if __name__ == "__main__":
    unittest.main()
