"""Claims on standings."""

from onestillview.checks import MOST_WALKERS, is_mark, is_tuple_of, is_within
from onestillview.errors import BadClaim

MOST_DEEP = 4
# For each word of a claim without numbers, how many claims follow it.
CLAIMS_BEHIND = {"apart": 0, "together": 0, "spread": 0, "not": 1, "both": 2}


def is_marked_claim(value):
    """Whether it is a CLAIM on how many walkers have a mark."""
    if not is_tuple_of(value, 4) or value[0] != "marked":
        return False
    return is_mark(value[1]) and is_within(value[2], 0, MOST_WALKERS) and is_within(value[3], 0, MOST_WALKERS)


def is_claim(value, deep):
    """Whether it is a CLAIM, so deep at most."""
    if deep == 0 or not isinstance(value, tuple) or len(value) == 0:
        return False
    if not isinstance(value[0], str) or value[0] not in CLAIMS_BEHIND:
        return is_marked_claim(value)
    return len(value) == 1 + CLAIMS_BEHIND[value[0]] and all([is_claim(part, deep - 1) for part in value[1:]])


def check_claim(value):
    """Refuses what is no CLAIM."""
    if not is_claim(value, MOST_DEEP):
        raise BadClaim(value)


def gaps_between(floor, places):
    """The numbers of steps from each of these places, which are ascending, to the next one, on a ring all round."""
    found = [after - before for before, after in zip(places, places[1:])]
    if floor[0] == "ring":
        found.append(places[0] + floor[1] - places[-1])
    return found


def are_spread(floor, places):
    """Whether no two of these places are one, and the gaps between them differ by at most one."""
    apart = sorted(set(places))
    if len(apart) < len(places):
        return False
    gaps = gaps_between(floor, apart)
    return max(gaps, default=0) - min(gaps, default=0) <= 1


def holds_in(floor, standing, claim):
    """Whether the claim holds of the standing, all of this being known to be right."""
    word = claim[0]
    if word == "not":
        return not holds_in(floor, standing, claim[1])
    if word == "both":
        return holds_in(floor, standing, claim[1]) and holds_in(floor, standing, claim[2])
    places = [entry[0] for entry in standing]
    if word == "apart":
        return len(set(places)) == len(places)
    if word == "together":
        return len(set(places)) == 1
    if word == "spread":
        return are_spread(floor, places)
    many = len([entry for entry in standing if entry[1] == claim[1]])
    return claim[2] <= many <= claim[3]
