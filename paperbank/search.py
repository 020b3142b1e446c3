"""All papers of the questions with leave: the good ones, the clash, the nearest, how long they last.

The lists here run side by side: what stands at place k belongs to the set
that has the member at each bit of k. At most 12 questions have leave where
a search is made, so no list is longer than 4096.
"""

from paperbank.demands import holds, shares
from paperbank.state import are_enemies, copy_of_bank, too_many_to_search, use_paper, with_leave


def subsets(members):
    found = [()]
    for member in members:
        found = found + [subset + (member,) for subset in found]
    return found


def subset_sums(values):
    sums = [0]
    for value in values:
        sums = sums + [total + value for total in sums]
    return sums


def place_in_order(subset):
    return (len(subset), subset)


def in_order(found):
    return sorted(found, key=place_in_order)


def foes_ahead(bank, candidates, place):
    foes = 0
    for earlier in range(place):
        if are_enemies(bank, candidates[earlier], candidates[place]):
            foes = foes | 1 << earlier
    return foes


# For each subset of the candidates whether no two of it are enemies.
def peaceful(bank, candidates):
    peace = [True]
    for place in range(len(candidates)):
        foes = foes_ahead(bank, candidates, place)
        peace = peace + [calm and bits & foes == 0 for bits, calm in enumerate(peace)]
    return peace


# For each subset of the candidates whether the demand holds for it.
def verdicts(bank, candidates, demand):
    added = [shares(demand, number, bank.questions[number]) for number in candidates]
    firsts = subset_sums([share[0] for share in added])
    seconds = subset_sums([share[1] for share in added])
    boths = subset_sums([share[2] for share in added])
    return [holds(demand, first, second, both) for first, second, both in zip(firsts, seconds, boths)]


def good_in_any_order(bank):
    candidates = with_leave(bank)
    good = peaceful(bank, candidates)
    for demand in bank.demands:
        held = verdicts(bank, candidates, demand)
        good = [so_far and now for so_far, now in zip(good, held)]
    return [paper for paper, is_good in zip(subsets(candidates), good) if is_good]


# All good papers, in the papers' order.
def good_papers(bank):
    return in_order(good_in_any_order(bank))


# The first good paper, or None where there's none.
def first_good(bank):
    return min(good_in_any_order(bank), key=place_in_order, default=None)


# The sets of demands, as bits, that are just what some paper without enemies, all with leave, meets.
def met_together(bank):
    candidates = with_leave(bank)
    peace = peaceful(bank, candidates)
    met = [0 for calm in peace]
    for place, demand in enumerate(bank.demands):
        held = verdicts(bank, candidates, demand)
        met = [bits | 1 << place if now else bits for bits, now in zip(met, held)]
    return [bits for bits, calm in zip(met, peace) if calm]


# For each set of demands whether some such paper meets all of them.
def meetable(bank):
    size = len(bank.demands)
    can = [False] * (1 << size)
    for bits in met_together(bank):
        can[bits] = True
    # Who meets a set meets each set within it: one demand after another is let go.
    for place in range(size):
        bit = 1 << place
        for bits in range(1 << size):
            if can[bits | bit]:
                can[bits] = True
    return can


# The fewest demands that can't be met together, or None where all can.
def fewest_clashing(bank):
    numbers = list(range(len(bank.demands)))
    clashing = [chosen for chosen, can in zip(subsets(numbers), meetable(bank)) if not can]
    if len(clashing) == 0:
        return None
    return in_order(clashing)[0]


def in_all(number, papers):
    return all([number in paper for paper in papers])


def in_none(number, papers):
    return not any([number in paper for paper in papers])


def apart(one, other):
    return len(set(one) ^ set(other))


# The papers come in their order, and min gives the first of equals.
def nearest(papers, wanted):
    return min(papers, key=lambda paper: apart(paper, wanted))


# How many papers could be used, one a year from this year on, each time the first good one.
def lasting(bank, at_most):
    trial = copy_of_bank(bank)
    # The plan and the enemies stay, so who has leave settles which paper is the first.
    firsts = {}
    used = 0
    while used < at_most and not too_many_to_search(trial):
        candidates = tuple(with_leave(trial))
        if candidates not in firsts:
            firsts[candidates] = first_good(trial)
        paper = firsts[candidates]
        if paper is None:
            break
        use_paper(trial, paper)
        # Only the call year ends at the last year, so this one may pass it.
        trial.year = trial.year + 1
        used = used + 1
    return used
