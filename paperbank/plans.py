"""A plan's text, read into demands."""

from paperbank.demands import pair_demand, span_demand

DIGITS = "0123456789"
LETTERS = "abcdefghijklmnopqrstuvwxyz"
MEASURES = ("count", "marks", "minutes")
MOST_DEMANDS = 10
MOST_DIGITS = 4


# A byte that stands in no word of a plan becomes one and the same sign, which spoils its word.
def sign_of(byte):
    if byte == ord("\n"):
        return "\n"
    if byte == ord(" "):
        return " "
    if ord("0") <= byte <= ord("9"):
        return DIGITS[byte - ord("0")]
    if ord("a") <= byte <= ord("z"):
        return LETTERS[byte - ord("a")]
    return "?"


def lines_of(text):
    return "".join([sign_of(byte) for byte in text]).split("\n")


def words_of(line):
    return [word for word in line.split(" ") if word != ""]


# How many numbers each SEL knows, from 0.
def sel_bounds(how_many_questions):
    return {"topic": 12, "kind": 6, "hard": 5, "harder": 5, "question": how_many_questions}


def read_number(word):
    if len(word) > MOST_DIGITS or not word.isdigit():
        return None
    if word[0] == "0" and word != "0":
        return None
    return int(word)


def read_sel(words, bounds):
    if words == ["all"]:
        return ("all", 0)
    if len(words) != 2 or words[0] not in bounds:
        return None
    number = read_number(words[1])
    if number is None or number >= bounds[words[0]]:
        return None
    return (words[0], number)


def read_span(words, bounds):
    if len(words) < 5:
        return None
    tail = words[-4:]
    if tail[0] not in MEASURES or tail[2] != "to":
        return None
    sel = read_sel(words[:-4], bounds)
    low = read_number(tail[1])
    high = read_number(tail[3])
    if sel is None or low is None or high is None or low > high:
        return None
    return span_demand(tail[0], sel, low, high)


def read_pair(words, middle, bounds):
    if middle not in words:
        return None
    place = words.index(middle)
    first = read_sel(words[1:place], bounds)
    second = read_sel(words[place + 1:], bounds)
    if first is None or second is None:
        return None
    return pair_demand(words[0], first, second)


def read_demand(words, bounds):
    if words[0] == "if":
        return read_pair(words, "then", bounds)
    if words[0] == "not":
        return read_pair(words, "with", bounds)
    return read_span(words, bounds)


# Gives the wrong line's number, or 0 where none is wrong, and the demands up to there.
def read_plan(text, how_many_questions):
    bounds = sel_bounds(how_many_questions)
    demands = []
    for line_number, line in enumerate(lines_of(text), 1):
        words = words_of(line)
        if len(words) == 0:
            continue
        demand = read_demand(words, bounds)
        if demand is None or len(demands) == MOST_DEMANDS:
            return (line_number, demands)
        demands.append(demand)
    return (0, demands)
