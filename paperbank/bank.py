"""The calls on a bank of questions, laid out in one list of whole numbers."""

from paperbank.demands import as_line, holds_for
from paperbank.plans import read_plan
from paperbank.scores import closest_twins, marks_of, marks_on, mean_hardness, minutes_of
from paperbank.scores import nearest_in_hardness, questions_of, topics_of
from paperbank.search import apart, fewest_clashing, first_good, good_papers, in_all, in_none, lasting, nearest
from paperbank.state import Bank, Question, all_with_leave, are_enemies, enemies_of, has_leave, is_paper
from paperbank.state import is_question, pair_of, too_many_to_search, use_paper, with_leave, without_enemies

TOO_MANY = -8
TOO_LATE = -7
BANK_FULL = -6
NOT_GOOD = -5
NO_PAPER = -4
ALREADY = -3
NOT_AS_TOLD = -1
WRONG_PLAN = -1000

MOST_QUESTIONS = 20
MOST_TWINS = 300
MOST_BYTES = 1000
LAST_YEAR = 200

ITEM_RANGES = ((0, 11), (0, 5), (0, 4), (1, 200), (1, 300))
LEAVE_RANGES = ((0, 50), (1, 99))
YEAR_RANGES = ((1, 100),)
HARDEST_RANGES = ((0, 4000), (1, 1000))
LASTS_RANGES = ((1, 8),)

# For each call of the document how many whole numbers it has, and how many lists.
LAYOUTS = (
    (5, 0), (2, 0), (0, 1), (2, 0), (1, 0), (0, 1), (0, 0),
    (0, 0), (0, 0), (0, 0), (0, 1), (0, 0), (0, 1), (0, 0),
    (1, 0), (0, 1), (2, 0), (1, 0), (1, 0), (1, 0), (0, 0),
)


def in_ranges(numbers, ranges):
    return all([span[0] <= number <= span[1] for number, span in zip(numbers, ranges)])


def with_length(members):
    return [len(members)] + list(members)


def as_number(truth):
    return 1 if truth else 0


# A paper is good if all of these are so: no enemies, all with leave, then each demand.
def verdicts_on(bank, paper):
    told = [without_enemies(bank, paper), all_with_leave(bank, paper)]
    return told + [holds_for(demand, bank.questions, paper) for demand in bank.demands]


def add_item(bank, numbers, row):
    if not in_ranges(numbers, ITEM_RANGES):
        return [NOT_AS_TOLD]
    if len(bank.questions) == MOST_QUESTIONS:
        return [BANK_FULL]
    bank.questions.append(Question(numbers[0], numbers[1], numbers[2], numbers[3], numbers[4]))
    return [0, len(bank.questions) - 1]


def add_enemies(bank, numbers, row):
    one = numbers[0]
    other = numbers[1]
    if not is_question(bank, one) or not is_question(bank, other) or one == other:
        return [NOT_AS_TOLD]
    if are_enemies(bank, one, other):
        return [ALREADY]
    bank.enemies[pair_of(one, other)] = True
    return [0, len(bank.enemies)]


def set_plan(bank, numbers, row):
    if len(row) > MOST_BYTES or not all([0 <= byte <= 255 for byte in row]):
        return [NOT_AS_TOLD]
    reading = read_plan(row, len(bank.questions))
    if reading[0] > 0:
        return [WRONG_PLAN - reading[0]]
    bank.demands = reading[1]
    return [0, len(bank.demands)]


def set_leave(bank, numbers, row):
    if not in_ranges(numbers, LEAVE_RANGES):
        return [NOT_AS_TOLD]
    bank.gap = numbers[0]
    bank.most = numbers[1]
    return [0, len(with_leave(bank))]


def pass_years(bank, numbers, row):
    if not in_ranges(numbers, YEAR_RANGES):
        return [NOT_AS_TOLD]
    if bank.year + numbers[0] > LAST_YEAR:
        return [TOO_LATE]
    bank.year = bank.year + numbers[0]
    return [0, bank.year]


def tell_meets(bank, numbers, row):
    if not is_paper(bank, row):
        return [NOT_AS_TOLD]
    told = verdicts_on(bank, row)
    return [0, as_number(all(told))] + [as_number(truth) for truth in told]


def tell_count(bank, numbers, row):
    if too_many_to_search(bank):
        return [TOO_MANY]
    return [0, len(good_papers(bank))]


def tell_first(bank, numbers, row):
    if too_many_to_search(bank):
        return [TOO_MANY]
    paper = first_good(bank)
    if paper is None:
        return [0, 0]
    return [0, 1] + with_length(paper)


def tell_clash(bank, numbers, row):
    if too_many_to_search(bank):
        return [TOO_MANY]
    clashing = fewest_clashing(bank)
    if clashing is None:
        return [0, 0]
    return [0, 1] + with_length(clashing)


def tell_must(bank, numbers, row):
    if too_many_to_search(bank):
        return [TOO_MANY]
    papers = good_papers(bank)
    if len(papers) == 0:
        return [NO_PAPER]
    candidates = with_leave(bank)
    always = [number for number in candidates if in_all(number, papers)]
    never = [number for number in candidates if in_none(number, papers)]
    return [0] + with_length(always) + with_length(never)


def tell_near(bank, numbers, row):
    if not is_paper(bank, row):
        return [NOT_AS_TOLD]
    if too_many_to_search(bank):
        return [TOO_MANY]
    papers = good_papers(bank)
    if len(papers) == 0:
        return [NO_PAPER]
    best = nearest(papers, row)
    return [0, apart(best, row)] + with_length(best)


def tell_twins(bank, numbers, row):
    if too_many_to_search(bank):
        return [TOO_MANY]
    papers = good_papers(bank)
    if len(papers) > MOST_TWINS:
        return [TOO_MANY]
    twins = closest_twins(bank, papers)
    if twins is None:
        return [NO_PAPER]
    return [0, twins[0]] + with_length(twins[1]) + with_length(twins[2])


def use_good_paper(bank, numbers, row):
    if not is_paper(bank, row):
        return [NOT_AS_TOLD]
    if not all(verdicts_on(bank, row)):
        return [NOT_GOOD]
    use_paper(bank, row)
    return [0, len(row)]


def tell_shown(bank, numbers, row):
    text = "".join([as_line(demand) + "\n" for demand in bank.demands])
    return [0] + with_length([ord(sign) for sign in text])


def tell_about(bank, numbers, row):
    if not is_question(bank, numbers[0]):
        return [NOT_AS_TOLD]
    question = bank.questions[numbers[0]]
    told = [question.topic, question.kind, question.hardness, question.marks, question.minutes]
    told.append(as_number(question.withdrawn))
    told.append(as_number(has_leave(bank, question)))
    return [0] + told + with_length(question.years) + with_length(enemies_of(bank, numbers[0]))


def tell_score(bank, numbers, row):
    if not is_paper(bank, row):
        return [NOT_AS_TOLD]
    questions = questions_of(bank, row)
    topics = topics_of(bank.questions)
    told = [0, marks_of(questions), minutes_of(questions)] + list(mean_hardness(questions)) + [len(topics)]
    for topic in topics:
        told.extend([topic, marks_on(topic, questions)])
    return told


def tell_hardest(bank, numbers, row):
    if not in_ranges(numbers, HARDEST_RANGES):
        return [NOT_AS_TOLD]
    if too_many_to_search(bank):
        return [TOO_MANY]
    paper = nearest_in_hardness(bank, good_papers(bank), numbers[0], numbers[1])
    if paper is None:
        return [NO_PAPER]
    return [0] + list(mean_hardness(questions_of(bank, paper))) + with_length(paper)


def withdraw_question(bank, numbers, row):
    if not is_question(bank, numbers[0]):
        return [NOT_AS_TOLD]
    question = bank.questions[numbers[0]]
    if question.withdrawn:
        return [ALREADY]
    question.withdrawn = True
    return [0]


def tell_nth(bank, numbers, row):
    place = numbers[0]
    if place < 0:
        return [NOT_AS_TOLD]
    if too_many_to_search(bank):
        return [TOO_MANY]
    papers = good_papers(bank)
    if place >= len(papers):
        return [NO_PAPER]
    return [0] + with_length(papers[place])


def tell_lasts(bank, numbers, row):
    if not in_ranges(numbers, LASTS_RANGES):
        return [NOT_AS_TOLD]
    if too_many_to_search(bank):
        return [TOO_MANY]
    return [0, lasting(bank, numbers[0])]


def tell_told(bank, numbers, row):
    sizes = [len(bank.questions), len(bank.enemies), len(bank.demands)]
    return [0] + sizes + [bank.gap, bank.most, bank.year] + with_length(with_leave(bank))


# The calls, each at its number.
HANDLERS = (
    add_item, add_enemies, set_plan, set_leave, pass_years, tell_meets, tell_count,
    tell_first, tell_clash, tell_must, tell_near, tell_twins, use_good_paper, tell_shown,
    tell_about, tell_score, tell_hardest, withdraw_question, tell_nth, tell_lasts, tell_told,
)


def answer_call(bank, number, numbers, row):
    handler = HANDLERS[number]
    return handler(bank, numbers, row)


def answers(calls):
    bank = Bank()
    told = []
    at = 0
    while at < len(calls):
        number = calls[at]
        layout = LAYOUTS[number]
        row_at = at + 1 + layout[0]
        numbers = calls[at + 1:row_at]
        row = []
        at = row_at
        if layout[1] == 1:
            at = row_at + 1 + calls[row_at]
            row = calls[row_at + 1:at]
        told.extend(with_length(answer_call(bank, number, numbers, row)))
    return told
