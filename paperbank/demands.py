"""The demands of a plan: when one holds, and how it is told as a line.

A demand is judged from three sums over a paper's questions, so that one
paper and all the papers of a search are judged by the same words.
"""


class Demand:
    def __init__(self, word, first, second, low, high):
        self.word = word
        self.first = first
        self.second = second
        self.low = low
        self.high = high


def span_demand(word, sel, low, high):
    return Demand(word, sel, None, low, high)


def pair_demand(word, first, second):
    return Demand(word, first, second, 0, 0)


def fits(sel, number, question):
    word = sel[0]
    wanted = sel[1]
    if word == "topic":
        return question.topic == wanted
    if word == "kind":
        return question.kind == wanted
    if word == "hard":
        return question.hardness == wanted
    if word == "harder":
        return question.hardness >= wanted
    if word == "question":
        return number == wanted
    return True


def measure(word, question):
    if word == "marks":
        return question.marks
    if word == "minutes":
        return question.minutes
    return 1


# What one question adds to the sums: that of the first SEL, of the second, of both at once.
def shares(demand, number, question):
    first = measure(demand.word, question) if fits(demand.first, number, question) else 0
    if demand.second is None:
        return (first, 0, 0)
    second = 1 if fits(demand.second, number, question) else 0
    return (first, second, first * second)


def holds(demand, first, second, both):
    if demand.word == "if":
        return first == 0 or second > 0
    if demand.word == "not":
        # Of all the pairs only those of a question with itself are not two unlike questions.
        return first * second == both
    return demand.low <= first <= demand.high


def holds_for(demand, questions, paper):
    added = [shares(demand, number, questions[number]) for number in paper]
    first = sum([share[0] for share in added])
    second = sum([share[1] for share in added])
    both = sum([share[2] for share in added])
    return holds(demand, first, second, both)


def sel_words(sel):
    word = sel[0]
    number = sel[1]
    return word if word == "all" else f"{word} {number}"


def as_line(demand):
    word = demand.word
    first = sel_words(demand.first)
    if demand.second is None:
        low = demand.low
        high = demand.high
        return f"{first} {word} {low} to {high}"
    second = sel_words(demand.second)
    middle = "then" if word == "if" else "with"
    return f"{word} {first} {middle} {second}"
