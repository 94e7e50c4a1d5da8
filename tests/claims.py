"""Claims told anew, as point 12 says it, and what is none."""

from collections import Counter

from tests.helpers import NO_TUPLES, STILL, walked

BAD_CLAIMS = NO_TUPLES + (
    (), "apart", ["apart"], ("apart", ()), ("apart", 0), ("Apart",), ("together", 1), ("all",), ("spread", "apart"),
    ("marked",), ("marked", 0), ("marked", 0, 1), ("marked", 0, 1, 2, 3), ["marked", 0, 1, 2], (None,), (True,), (0,),
    ("marked", 4, 0, 1), ("marked", -1, 0, 1), ("marked", 0, -1, 1), ("marked", 0, 6, 6), ("marked", 0, 0, 6),
    ("marked", 0, 0, -1), ("marked", 0, 6, 5), ("marked", 0, 5, -1), ("marked", True, 0, 1), ("marked", 0, True, 1),
    ("marked", 0, 0, True), ("marked", None, 0, 1), ("marked", 0, "0", 1), ("marked", 0, 0, None),
    ("marked", (0,), 0, 1), ("mark", 0, 0, 1), ("counted", 0, 0, 1), ("apart", 0, 0, 1), (None, 0, 0, 1),
    ("not",), ("not", "apart"), ("not", ()), ("not", ["apart"]), ("not", ("apart",), ("apart",)), ("not", None),
    ("not", ("not",)), ("both",), ("both", ("apart",)), ("both", ("apart",), None), ("both", None, ("apart",)),
    ("both", ("apart",), ("apart",), ("apart",)), ["not", ("apart",)], ("both", ("apart",), ["apart"]),
    ("Not", ("apart",)), (("apart",),), ("either", ("apart",)), ("not", ("marked", 0, False, 1)),
    (("not",), ("apart",)), (["apart"],), ({},), (STILL,), ("apart", ("apart",)),
)


def told_spread(floor, standing):
    """Whether the standing is spread, step by step from place to place."""
    places = [place for place, _, _ in standing]
    if len(set(places)) != len(places):
        return False
    gaps = []
    for place in places:
        for steps in range(1, floor[1] + 1):
            at = walked(floor, place, steps)
            if at is None:
                break
            if at in places:
                gaps.append(steps)
                break
    return not gaps or max(gaps) - min(gaps) <= 1


def told_meets(floor, standing, claim):
    """Whether the claim holds, as point 12 says it."""
    at = Counter(place for place, _, _ in standing)
    if claim[0] == "apart":
        return max(at.values()) == 1
    if claim[0] == "together":
        return len(at) == 1
    if claim[0] == "marked":
        return claim[2] <= sum(mark == claim[1] for _, mark, _ in standing) <= claim[3]
    if claim[0] == "spread":
        return told_spread(floor, standing)
    told = [told_meets(floor, standing, part) for part in claim[1:]]
    return not told[0] if claim[0] == "not" else told[0] and told[1]


def random_claim(chance, deep=4):
    """Some CLAIM, so deep at most."""
    words = ["apart", "together", "spread", "marked"] + (["not", "both", "both"] if deep > 1 else [])
    word = chance.choice(words)
    if word == "marked":
        return (word, chance.randrange(4), chance.randrange(6), chance.randrange(6))
    parts = {"not": 1, "both": 2}.get(word, 0)
    return (word, *[random_claim(chance, deep - 1) for _ in range(parts)])
