"""What one object holds: questions, enemies, a plan, and who has leave."""

MOST_SEARCHED = 12


class Question:
    def __init__(self, topic, kind, hardness, marks, minutes):
        self.topic = topic
        self.kind = kind
        self.hardness = hardness
        self.marks = marks
        self.minutes = minutes
        self.years = []
        self.withdrawn = False


class Bank:
    def __init__(self):
        self.questions = []
        self.enemies = {}
        self.demands = []
        self.year = 0
        self.gap = 0
        self.most = 99


def has_leave(bank, question):
    if question.withdrawn or len(question.years) >= bank.most:
        return False
    return all([bank.year > used + bank.gap for used in question.years])


def with_leave(bank):
    return [number for number, question in enumerate(bank.questions) if has_leave(bank, question)]


def too_many_to_search(bank):
    return len(with_leave(bank)) > MOST_SEARCHED


# Enemies are so both ways round, so a pair is kept with the lesser number in front.
def pair_of(one, other):
    return (min(one, other), max(one, other))


def are_enemies(bank, one, other):
    return pair_of(one, other) in bank.enemies


def enemies_of(bank, number):
    return [other for other in range(len(bank.questions)) if are_enemies(bank, number, other)]


def is_question(bank, number):
    return 0 <= number < len(bank.questions)


def is_paper(bank, numbers):
    before = -1
    for number in numbers:
        if number <= before or not is_question(bank, number):
            return False
        before = number
    return True


def without_enemies(bank, paper):
    for place, number in enumerate(paper):
        if any([are_enemies(bank, number, other) for other in paper[:place]]):
            return False
    return True


def all_with_leave(bank, paper):
    return all([has_leave(bank, bank.questions[number]) for number in paper])


def use_paper(bank, paper):
    for number in paper:
        bank.questions[number].years.append(bank.year)


def copy_of_question(question):
    copied = Question(question.topic, question.kind, question.hardness, question.marks, question.minutes)
    copied.years = list(question.years)
    copied.withdrawn = question.withdrawn
    return copied


# Demands are never changed once they're read, so they alone may stand in both.
def copy_of_bank(bank):
    copied = Bank()
    copied.questions = [copy_of_question(question) for question in bank.questions]
    copied.enemies = dict(bank.enemies)
    copied.demands = list(bank.demands)
    copied.year = bank.year
    copied.gap = bank.gap
    copied.most = bank.most
    return copied
