"""Made-up banks and rows of calls, each answered a second time by a slow reckoning of the document's words."""

import itertools
import random
import unittest
from fractions import Fraction

from tests.helper import (CLASH, COUNT, FIRST, MUST, SHOWN, TOLD, TWINS, about, ask, enemies, hardest, item, lasts,
                          leave, meets, near, nth, plan, score, text, use, withdraw, year)


def fits(sel, number, question):
    word, _, n = sel.partition(" ")
    topic, kind, hardness = question[:3]
    return {
        "all": lambda: True,
        "topic": lambda: topic == int(n),
        "kind": lambda: kind == int(n),
        "hard": lambda: hardness == int(n),
        "harder": lambda: hardness >= int(n),
        "question": lambda: number == int(n),
    }[word]()


def holds(demand, questions, paper):
    first = [i for i in paper if fits(demand[1], i, questions[i])]
    if demand[0] == "if":
        return not first or any(fits(demand[2], j, questions[j]) for j in paper)
    if demand[0] == "not":
        return not any(i != j and fits(demand[2], j, questions[j]) for i in first for j in paper)
    total = {"count": len(first), "marks": sum(questions[i][3] for i in first),
             "minutes": sum(questions[i][4] for i in first)}[demand[0]]
    return demand[2] <= total <= demand[3]


def as_line(demand):
    if demand[0] == "if":
        return f"if {demand[1]} then {demand[2]}"
    if demand[0] == "not":
        return f"not {demand[1]} with {demand[2]}"
    return f"{demand[1]} {demand[0]} {demand[2]} to {demand[3]}"


def a_list(members):
    return [len(members), *members]


class Reckoned:
    """The object, with nothing kept but what was told to it: all else is reckoned from the words each time."""

    def __init__(self):
        self.questions = []
        self.pairs = []
        self.demands = []
        self.uses = []
        self.gone = []
        self.year_now, self.gap, self.most_uses = 0, 0, 99

    def has_leave(self, i, years_on=0, more=()):
        years = [y for j, y in [*self.uses, *more] if j == i]
        return (i not in self.gone and len(years) < self.most_uses
                and all(self.year_now + years_on > y + self.gap for y in years))

    def leaves(self, years_on=0, more=()):
        return [i for i in range(len(self.questions)) if self.has_leave(i, years_on, more)]

    def calm(self, paper):
        return not any(i in paper and j in paper for i, j in self.pairs)

    def meets_all(self, paper, demands):
        return all(holds(demand, self.questions, paper) for demand in demands)

    def peaceful(self, leaves):
        every = [paper for size in range(len(leaves) + 1) for paper in itertools.combinations(leaves, size)]
        return [paper for paper in every if self.calm(paper)]

    def good(self, leaves=None):
        papers = self.peaceful(self.leaves() if leaves is None else leaves)
        return [paper for paper in papers if self.meets_all(paper, self.demands)]

    def is_question(self, i):
        return i in range(len(self.questions))

    def is_paper(self, paper):
        return sorted(set(paper)) == list(paper) and all(self.is_question(i) for i in paper)

    def truths(self, paper):
        return [self.calm(paper), all(self.has_leave(i) for i in paper),
                *(holds(demand, self.questions, paper) for demand in self.demands)]

    def total(self, paper, place):
        return sum(self.questions[i][place] for i in paper)

    def on_topic(self, paper, topic):
        return sum(self.questions[i][3] for i in paper if self.questions[i][0] == topic)

    def weight(self, paper):
        return sum(self.questions[i][3] * self.questions[i][2] for i in paper)

    def mean(self, paper):
        return Fraction(self.weight(paper), self.total(paper, 3)) if paper else Fraction(0)

    def unlike(self, one, other):
        return (sum(abs(self.on_topic(one, t) - self.on_topic(other, t)) for t in range(12))
                + abs(self.weight(one) - self.weight(other)) + abs(self.total(one, 4) - self.total(other, 4)))

    def item(self, *values):
        bounds = ((0, 11), (0, 5), (0, 4), (1, 200), (1, 300))
        if any(not low <= value <= high for value, (low, high) in zip(values, bounds)):
            return [-1]
        if len(self.questions) == 20:
            return [-6]
        self.questions.append(values)
        return [0, len(self.questions) - 1]

    def enemies(self, i, j):
        if not self.is_question(i) or not self.is_question(j) or i == j:
            return [-1]
        if (i, j) in self.pairs or (j, i) in self.pairs:
            return [-3]
        self.pairs.append((i, j))
        return [0, len(self.pairs)]

    def plan(self, demands):
        self.demands = demands
        return [0, len(demands)]

    def leave(self, g, m):
        if not 0 <= g <= 50 or not 1 <= m <= 99:
            return [-1]
        self.gap, self.most_uses = g, m
        return [0, len(self.leaves())]

    def year(self, n):
        if not 1 <= n <= 100:
            return [-1]
        if self.year_now + n > 200:
            return [-7]
        self.year_now += n
        return [0, self.year_now]

    def meets(self, *paper):
        if not self.is_paper(paper):
            return [-1]
        truths = self.truths(paper)
        return [0, int(all(truths)), *(int(truth) for truth in truths)]

    def count(self):
        return [-8] if len(self.leaves()) > 12 else [0, len(self.good())]

    def first(self):
        if len(self.leaves()) > 12:
            return [-8]
        good = self.good()
        return [0, 1, *a_list(good[0])] if good else [0, 0]

    def clash(self):
        if len(self.leaves()) > 12:
            return [-8]
        papers = self.peaceful(self.leaves())
        for size in range(1, len(self.demands) + 1):
            for chosen in itertools.combinations(range(len(self.demands)), size):
                wanted = [self.demands[place] for place in chosen]
                if not any(self.meets_all(paper, wanted) for paper in papers):
                    return [0, 1, *a_list(chosen)]
        return [0, 0]

    def must(self):
        if len(self.leaves()) > 12:
            return [-8]
        good = self.good()
        if not good:
            return [-4]
        always = [i for i in self.leaves() if all(i in paper for paper in good)]
        never = [i for i in self.leaves() if not any(i in paper for paper in good)]
        return [0, *a_list(always), *a_list(never)]

    def near(self, *wanted):
        if not self.is_paper(wanted):
            return [-1]
        if len(self.leaves()) > 12:
            return [-8]
        good = self.good()
        if not good:
            return [-4]
        far = [sum((i in paper) != (i in wanted) for i in range(len(self.questions))) for paper in good]
        return [0, min(far), *a_list(good[far.index(min(far))])]

    def twins(self):
        good = self.good() if len(self.leaves()) <= 12 else []
        if len(self.leaves()) > 12 or len(good) > 300:
            return [-8]
        pairs = [pair for pair in itertools.combinations(good, 2) if not set(pair[0]) & set(pair[1])]
        if not pairs:
            return [-4]
        unlike = [self.unlike(*pair) for pair in pairs]
        one, other = pairs[unlike.index(min(unlike))]
        return [0, min(unlike), *a_list(one), *a_list(other)]

    def use(self, *paper):
        if not self.is_paper(paper):
            return [-1]
        if not all(self.truths(paper)):
            return [-5]
        self.uses.extend((i, self.year_now) for i in paper)
        return [0, len(paper)]

    def shown(self):
        return [0, *a_list(text("".join(as_line(demand) + "\n" for demand in self.demands)))]

    def about(self, i):
        if not self.is_question(i):
            return [-1]
        years = [y for j, y in self.uses if j == i]
        foes = sorted(sum(pair) - i for pair in self.pairs if i in pair)
        return [0, *self.questions[i], int(i in self.gone), int(self.has_leave(i)), *a_list(years), *a_list(foes)]

    def score(self, *paper):
        if not self.is_paper(paper):
            return [-1]
        topics = list(dict.fromkeys(question[0] for question in self.questions))
        mean = self.mean(paper)
        return [0, self.total(paper, 3), self.total(paper, 4), mean.numerator, mean.denominator, len(topics),
                *(number for topic in topics for number in (topic, self.on_topic(paper, topic)))]

    def hardest(self, n, d):
        if not 0 <= n <= 4000 or not 1 <= d <= 1000:
            return [-1]
        if len(self.leaves()) > 12:
            return [-8]
        good = [paper for paper in self.good() if paper]
        if not good:
            return [-4]
        off = [abs(self.mean(paper) - Fraction(n, d)) for paper in good]
        best = good[off.index(min(off))]
        return [0, self.mean(best).numerator, self.mean(best).denominator, *a_list(best)]

    def withdraw(self, i):
        if not self.is_question(i):
            return [-1]
        if i in self.gone:
            return [-3]
        self.gone.append(i)
        return [0]

    def nth(self, k):
        if k < 0:
            return [-1]
        if len(self.leaves()) > 12:
            return [-8]
        good = self.good()
        return [0, *a_list(good[k])] if k < len(good) else [-4]

    def lasts(self, n):
        if not 1 <= n <= 8:
            return [-1]
        if len(self.leaves()) > 12:
            return [-8]
        more = []
        for years_on in range(n):
            leaves = self.leaves(years_on, more)
            good = self.good(leaves) if len(leaves) <= 12 else []
            if not good:
                return [0, years_on]
            more.extend((i, self.year_now + years_on) for i in good[0])
        return [0, n]

    def told(self):
        return [0, len(self.questions), len(self.pairs), len(self.demands), self.gap, self.most_uses, self.year_now,
                *a_list(self.leaves())]


def a_sel(chance, how_many):
    sels = ["all", f"topic {chance.randrange(3)}", f"kind {chance.randrange(3)}", f"hard {chance.randrange(5)}",
            f"harder {chance.randrange(5)}"]
    if how_many > 0:
        sels.append(f"question {chance.randrange(how_many)}")
    return chance.choice(sels)


def a_demand(chance, how_many):
    word = chance.choice(["count", "marks", "minutes", "if", "not"])
    first = a_sel(chance, how_many)
    if word in ("if", "not"):
        return (word, first, a_sel(chance, how_many))
    highest = {"count": 4, "marks": 20, "minutes": 40}[word]
    low, high = sorted(chance.randrange(highest) for _ in range(2))
    return (word, first, low, high)


def a_question(chance):
    return (chance.randrange(3), chance.randrange(3), chance.randrange(5), chance.randrange(1, 9),
            chance.randrange(1, 15))


class ByReckoning(unittest.TestCase):
    def one(self, seed):
        chance = random.Random(seed)
        how_many = chance.randrange(8)
        reckoned = Reckoned()
        questions = [a_question(chance) for _ in range(how_many)]
        pairs = [pair for pair in itertools.combinations(range(how_many), 2) if chance.randrange(6) == 0]
        demands = [a_demand(chance, how_many) for _ in range(chance.randrange(8))]
        wanted = [i for i in range(how_many) if chance.randrange(2)]
        target = (chance.randrange(40), chance.randrange(1, 10))
        calls = [item(*question) for question in questions] + [enemies(*pair) for pair in pairs]
        calls.append(plan("\n".join(as_line(demand) for demand in demands)))
        told = ask(*calls, meets(*wanted), COUNT, FIRST, CLASH, MUST, near(*wanted), TWINS, hardest(*target), lasts(8))
        reckoned.questions, reckoned.pairs, reckoned.demands = questions, pairs, demands
        self.assertEqual(told[len(calls):], [
            reckoned.meets(*wanted), reckoned.count(), reckoned.first(), reckoned.clash(), reckoned.must(),
            reckoned.near(*wanted), reckoned.twins(), reckoned.hardest(*target), reckoned.lasts(8)], f"seed {seed}")
        return len(told[len(calls) + 3]) > 2

    def test_many_banks(self):
        clashes = sum(self.one(seed) for seed in range(400))
        self.assertTrue(50 < clashes < 350, clashes)


class RowOfCalls:
    """Calls made up one by one, each with the answer that the reckoning gives at that place."""

    # How often each is made: the changes oftener, so that the years of use grow.
    NAMES = ("item enemies plan leave year year year year meets count first clash must near twins use use use use use "
             "shown about about score hardest nth lasts lasts lasts told").split()

    def __init__(self, seed):
        self.chance = random.Random(seed)
        self.reckoned = Reckoned()
        self.calls = []
        self.answers = []
        big = seed % 8 == 0
        for _ in range(14 if big else self.chance.choice((3, 5, 6, 7, 8))):
            self.make("item")
        if seed % 5 == 0:
            self.make("year", [100])
            self.make("year", [96])
        for _ in range(18 if big else 60):
            self.make("withdraw" if self.chance.randrange(50) == 0 else self.chance.choice(self.NAMES))

    def question(self):
        return self.chance.randrange(-1, len(self.reckoned.questions) + 1)

    def paper(self):
        if self.chance.randrange(10) == 0:
            return [self.question() for _ in range(self.chance.randrange(4))]
        good = self.reckoned.good() if len(self.reckoned.leaves()) <= 12 else []
        if good and self.chance.randrange(3):
            return self.chance.choice(good)
        return [i for i in range(len(self.reckoned.questions)) if self.chance.randrange(3) == 0]

    def given(self, name):
        chance = self.chance
        if name == "item":
            values = list(a_question(chance))
            if chance.randrange(8) == 0:
                values[chance.randrange(5)] = chance.choice((-1, 0, 301))
            return values
        if name == "enemies":
            return [self.question(), self.question()]
        if name in ("meets", "near", "use", "score"):
            return self.paper()
        if name in ("about", "withdraw"):
            return [self.question()]
        return {"leave": lambda: [chance.randrange(-1, 6), chance.choice((0, 2, 3, 4, 99))],
                "year": lambda: [chance.choice((0, 1, 1, 1, 1, 2, 2, 3, 30))],
                "hardest": lambda: [chance.randrange(-1, 30), chance.randrange(0, 9)],
                "nth": lambda: [chance.choice((-1, 0, 1, 2, 3, 5, 8, 21, 60, 130))],
                "lasts": lambda: [chance.choice((0, 1, 2, 8, 8, 8, 8, 9))]}.get(name, list)()

    def make(self, name, given=None):
        if name == "plan":
            demands = [a_demand(self.chance, len(self.reckoned.questions))
                       for _ in range(self.chance.choice((0, 0, 1, 1, 2, 3)))]
            # With the empty paper good, no question is ever used up in lasts.
            if self.chance.randrange(3):
                demands.append(("count", "all", self.chance.randrange(1, 3), 4))
            self.calls.append(plan("\n".join(as_line(demand) for demand in demands)))
            self.answers.append(self.reckoned.plan(demands))
            return
        given = self.given(name) if given is None else given
        by_name = {"item": item, "enemies": enemies, "leave": leave, "year": year, "meets": meets, "near": near,
                   "use": use, "about": about, "score": score, "hardest": hardest, "withdraw": withdraw, "nth": nth,
                   "lasts": lasts}
        alone = {"count": COUNT, "first": FIRST, "clash": CLASH, "must": MUST, "twins": TWINS, "shown": SHOWN,
                 "told": TOLD}
        self.calls.append(alone[name] if name in alone else by_name[name](*given))
        self.answers.append(getattr(self.reckoned, name)(*given))


class RowsOfCalls(unittest.TestCase):
    def test_many_rows(self):
        refusals = {}
        answered = {}
        longest = 0
        for seed in range(250):
            row = RowOfCalls(seed)
            told = ask(*row.calls)
            for place, (call, answer) in enumerate(zip(row.calls, row.answers)):
                self.assertEqual(told[place], answer, f"seed {seed}, call {place}: {call}")
                seen = refusals if answer[0] < 0 else answered
                seen[call[0], answer[0]] = seen.get((call[0], answer[0]), 0) + 1
            longest = max([longest, *(answer[8] for call, answer in zip(row.calls, row.answers)
                                      if call[0] == 14 and len(answer) > 1)])
        # What these rows are there for must come up in them, or they would test nothing.
        self.assertEqual({call for call, _ in answered}, set(range(21)))
        self.assertGreater(longest, 3)
        for wanted in ((9, -4), (10, -4), (11, -4), (12, -5), (16, -4), (17, -3), (18, -4), (19, -1), (4, -7), (11, -8),
                       (16, -8), (18, -8), (19, -8)):
            self.assertGreater(refusals.get(wanted, 0), 5, (wanted, refusals))


if __name__ == "__main__":
    unittest.main()
