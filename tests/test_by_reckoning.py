"""Many made-up banks, each answered a second time by a slow reckoning of the document's words."""

import itertools
import random
import unittest

from tests.helper import CLASH, COUNT, FIRST, MUST, ask, enemies, item, meets, near, plan


def fits(sel, number, question):
    word, _, n = sel.partition(" ")
    topic, kind, hardness = question[:3]
    return {
        "all": lambda: True,
        "topic": lambda: topic == int(n),
        "kind": lambda: kind == int(n),
        "hard": lambda: hardness == int(n),
        "harder": lambda: hardness >= int(n),
        "question": lambda: number == int(n),
    }[word]()


def holds(demand, questions, paper):
    first = [i for i in paper if fits(demand[1], i, questions[i])]
    if demand[0] == "if":
        return not first or any(fits(demand[2], j, questions[j]) for j in paper)
    if demand[0] == "not":
        return not any(i != j and fits(demand[2], j, questions[j]) for i in first for j in paper)
    total = {"count": len(first), "marks": sum(questions[i][3] for i in first),
             "minutes": sum(questions[i][4] for i in first)}[demand[0]]
    return demand[2] <= total <= demand[3]


def as_line(demand):
    if demand[0] == "if":
        return f"if {demand[1]} then {demand[2]}"
    if demand[0] == "not":
        return f"not {demand[1]} with {demand[2]}"
    return f"{demand[1]} {demand[0]} {demand[2]} to {demand[3]}"


class Reckoned:
    def __init__(self, questions, pairs, demands):
        self.questions = questions
        self.demands = demands
        numbers = range(len(questions))
        every = [paper for size in range(len(questions) + 1) for paper in itertools.combinations(numbers, size)]
        self.peaceful = [paper for paper in every if self.calm(paper, pairs)]
        self.good = [paper for paper in self.peaceful if self.meets_all(paper, demands)]

    def calm(self, paper, pairs):
        return not any(i in paper and j in paper for i, j in pairs)

    def meets_all(self, paper, demands):
        return all(holds(demand, self.questions, paper) for demand in demands)

    def first(self):
        return [0, 1, len(self.good[0]), *self.good[0]] if self.good else [0, 0]

    def clash(self):
        if self.good:
            return [0, 0]
        for size in range(1, len(self.demands) + 1):
            for chosen in itertools.combinations(range(len(self.demands)), size):
                wanted = [self.demands[place] for place in chosen]
                if not any(self.meets_all(paper, wanted) for paper in self.peaceful):
                    return [0, 1, size, *chosen]

    def must(self):
        if not self.good:
            return [-4]
        numbers = range(len(self.questions))
        always = [i for i in numbers if all(i in paper for paper in self.good)]
        never = [i for i in numbers if not any(i in paper for paper in self.good)]
        return [0, len(always), *always, len(never), *never]

    def near(self, wanted):
        if not self.good:
            return [-4]
        far = [sum((i in paper) != (i in wanted) for i in range(len(self.questions))) for paper in self.good]
        best = self.good[far.index(min(far))]
        return [0, min(far), len(best), *best]


def a_sel(chance, how_many):
    sels = ["all", f"topic {chance.randrange(3)}", f"kind {chance.randrange(3)}", f"hard {chance.randrange(5)}",
            f"harder {chance.randrange(5)}"]
    if how_many > 0:
        sels.append(f"question {chance.randrange(how_many)}")
    return chance.choice(sels)


def a_demand(chance, how_many):
    word = chance.choice(["count", "marks", "minutes", "if", "not"])
    first = a_sel(chance, how_many)
    if word in ("if", "not"):
        return (word, first, a_sel(chance, how_many))
    highest = {"count": 4, "marks": 20, "minutes": 40}[word]
    low, high = sorted(chance.randrange(highest) for _ in range(2))
    return (word, first, low, high)


class ByReckoning(unittest.TestCase):
    def one(self, seed):
        chance = random.Random(seed)
        how_many = chance.randrange(8)
        questions = [(chance.randrange(3), chance.randrange(3), chance.randrange(5), chance.randrange(1, 9),
                      chance.randrange(1, 15)) for _ in range(how_many)]
        pairs = [pair for pair in itertools.combinations(range(how_many), 2) if chance.randrange(6) == 0]
        demands = [a_demand(chance, how_many) for _ in range(chance.randrange(8))]
        wanted = [i for i in range(how_many) if chance.randrange(2)]
        calls = [item(*question) for question in questions] + [enemies(*pair) for pair in pairs]
        calls.append(plan("\n".join(as_line(demand) for demand in demands)))
        told = ask(*calls, meets(*wanted), COUNT, FIRST, CLASH, MUST, near(*wanted))[len(calls):]
        reckoned = Reckoned(questions, pairs, demands)
        truths = [int(reckoned.calm(wanted, pairs)), 1] + [int(holds(d, questions, wanted)) for d in demands]
        self.assertEqual(told, [
            [0, min(truths)] + truths, [0, len(reckoned.good)], reckoned.first(), reckoned.clash(), reckoned.must(),
            reckoned.near(wanted)], f"seed {seed}")
        return len(told[3]) > 2

    def test_many_banks(self):
        clashes = sum(self.one(seed) for seed in range(400))
        self.assertTrue(50 < clashes < 350, clashes)


if __name__ == "__main__":
    unittest.main()
