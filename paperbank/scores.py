"""What a paper amounts to, and the good papers that are picked by it.

A paper is handed in as its questions here, but where papers are picked.
"""

HOW_MANY_TOPICS = 12


def questions_of(bank, paper):
    return [bank.questions[number] for number in paper]


def marks_of(questions):
    return sum([question.marks for question in questions])


def minutes_of(questions):
    return sum([question.minutes for question in questions])


def weight_of(questions):
    return sum([question.marks * question.hardness for question in questions])


def marks_on(topic, questions):
    return sum([question.marks for question in questions if question.topic == topic])


def greatest_divisor(one, other):
    while other > 0:
        rest = one % other
        one = other
        other = rest
    return one


def mean_hardness(questions):
    weight = weight_of(questions)
    marks = marks_of(questions)
    if marks == 0:
        return (0, 1)
    divisor = greatest_divisor(weight, marks)
    return (weight // divisor, marks // divisor)


# The topics in the order in which the questions first have them.
def topics_of(questions):
    seen = {}
    for question in questions:
        seen[question.topic] = True
    return list(seen)


# All that two papers are compared by: their unlikeness is the sum of how far these numbers are off.
def profile(questions):
    on_topics = [marks_on(topic, questions) for topic in range(HOW_MANY_TOPICS)]
    return on_topics + [weight_of(questions), minutes_of(questions)]


def unlikeness(one, other):
    return sum([abs(mine - yours) for mine, yours in zip(one, other)])


def as_bits(paper):
    bits = 0
    for number in paper:
        bits = bits | 1 << number
    return bits


# The unlikeness and the two papers, or None where each two have a question in common.
# The papers come in their order, so that of equals the two found first stay.
def closest_twins(bank, papers):
    profiles = [profile(questions_of(bank, paper)) for paper in papers]
    sets = [as_bits(paper) for paper in papers]
    best = None
    for first in range(len(papers)):
        for second in range(first + 1, len(papers)):
            if sets[first] & sets[second] != 0:
                continue
            unlike = unlikeness(profiles[first], profiles[second])
            if best is None or unlike < best[0]:
                best = (unlike, papers[first], papers[second])
    return best


# The paper with a question at least whose mean hardness is nearest to upper / lower, or None.
def nearest_in_hardness(bank, papers, upper, lower):
    best = None
    best_off = 0
    best_marks = 1
    for paper in papers:
        questions = questions_of(bank, paper)
        marks = marks_of(questions)
        # Off by this much, divided by marks and by lower; lower is the same for all.
        off = abs(weight_of(questions) * lower - upper * marks)
        if len(paper) > 0 and (best is None or off * best_marks < best_off * marks):
            best = paper
            best_off = off
            best_marks = marks
    return best
