"""Calls written by name, and their answers parted again call by call."""

from paperbank.bank import answers

LEAST = -9223372036854775808
GREATEST = 9223372036854775807


def text(words):
    return list(words.encode("latin-1"))


def item(t=0, k=0, h=0, m=1, u=1):
    return [0, t, k, h, m, u]


def enemies(i, j):
    return [1, i, j]


def plan(words):
    row = text(words) if isinstance(words, str) else list(words)
    return [2, len(row)] + row


def leave(g, m):
    return [3, g, m]


def year(n):
    return [4, n]


def meets(*paper):
    return [5, len(paper)] + list(paper)


def near(*paper):
    return [10, len(paper)] + list(paper)


def use(*paper):
    return [12, len(paper)] + list(paper)


def about(i):
    return [14, i]


def score(*paper):
    return [15, len(paper)] + list(paper)


def hardest(n, d):
    return [16, n, d]


def withdraw(i):
    return [17, i]


def nth(k):
    return [18, k]


def lasts(n):
    return [19, n]


COUNT = [6]
FIRST = [7]
CLASH = [8]
MUST = [9]
TWINS = [11]
SHOWN = [13]
TOLD = [20]


def items(how_many):
    return [item() for _ in range(how_many)]


def ask(*calls):
    """The answer of each call, made in order on one new object."""
    row = [number for call in calls for number in call]
    told = answers(row)
    parted = []
    at = 0
    while at < len(told):
        size = told[at]
        parted.append(told[at + 1:at + 1 + size])
        at += 1 + size
    assert at == len(told) and len(parted) == len(calls), told
    return parted


def last(*calls):
    return ask(*calls)[-1]
