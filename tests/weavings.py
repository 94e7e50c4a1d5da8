"""Weavings judged anew, and faults searched for deed by deed, as point 11 says it."""

from onestillview.lamps import fine_rule
from tests.models import CHANGES, LAMPS, told_due

FINE = fine_rule()
NEXT = {"idle": "look", "looked": "think", "thought": "step"}
BEGIN = ("wait", "idle", None, None)


def due_in(rule, entries, walker):
    """The number of the change that is due for this walker, None without any."""
    others = [entry[0] for at, entry in enumerate(entries) if at != walker]
    return told_due(rule, entries[walker][0], others)


def next_deed(rule, entries, walker):
    """(entries behind, word, whether this is a think of a stepping cycle, whether "views" is there) of its next deed.

    An entry is (lamp, stage, number due, cycle): cycle is None outside of stepping cycles, otherwise whether somebody
    has thought in one behind its look.
    """
    lamp, stage, number, cycle = entries[walker]
    word = NEXT[stage]
    found = list(entries)
    is_mixed = is_moving = False
    if word == "look":
        number = due_in(rule, entries, walker)
        is_mixed = number == 2 and any(entry[3] is True for at, entry in enumerate(entries) if at != walker)
        found[walker] = (lamp, "looked", number, False if number == 2 else None)
    elif word == "think":
        found[walker] = (lamp if number is None else CHANGES[number][1], "thought", None, cycle)
        is_moving = number == 2
        if is_moving:
            found = [entry if entry[3] is None else entry[:3] + (True,) for entry in found]
    else:
        found[walker] = (lamp, "idle", None, None)
    return tuple(found), word, is_moving, is_mixed


def are_stuck(rule, entries):
    """Whether all are idle, and nobody has a change due."""
    if any(entry[1] != "idle" for entry in entries):
        return False
    return all(due_in(rule, entries, walker) is None for walker in range(len(entries)))


def judged(rule, many, weaving):
    """For each beginning of a WEAVING, from () on, the faults that there are behind it; None if it is no WEAVING."""
    if not isinstance(weaving, tuple):
        return None
    entries, counts = (BEGIN,) * many, [0] * many
    found = [{"stuck"} if are_stuck(rule, entries) else set()]
    for deed in weaving:
        if not isinstance(deed, tuple) or len(deed) != 2 or type(deed[1]) is not int or not 0 <= deed[1] < many:
            return None
        entries, word, is_moving, is_mixed = next_deed(rule, entries, deed[1])
        if word != deed[0]:
            return None
        counts[deed[1]] += is_moving
        there = {"views"} if is_mixed else set()
        there |= {"once"} if max(counts) - min(counts) > 1 else set()
        there |= {"stuck"} if are_stuck(rule, entries) else set()
        found.append(there)
    return found


def searched(rule, many):
    """The faults that there are, by a search through all that so many walkers can do, deed by deed."""
    begin = ((BEGIN,) * many, (0,) * many)
    found = {"stuck"} if are_stuck(rule, begin[0]) else set()
    seen, fresh = {begin}, [begin]
    while fresh:
        later = []
        for entries, counts in fresh:
            for walker in range(many):
                behind, _, is_moving, is_mixed = next_deed(rule, entries, walker)
                told = [count + (is_moving and at == walker) for at, count in enumerate(counts)]
                # Whoever is two ahead is enough, so nobody needs to be counted further.
                told = tuple(min(count - min(told), 2) for count in told)
                found |= {"views"} if is_mixed else set()
                found |= {"once"} if max(told) > 1 else set()
                found |= {"stuck"} if are_stuck(rule, behind) else set()
                if (behind, told) not in seen:
                    seen.add((behind, told))
                    later.append((behind, told))
        fresh = later
    return tuple(sorted(found))


def drawn_weaving(chance, rule, many, length, ahead=()):
    """Some WEAVING of so many deeds behind those ahead, or a few more until all are idle.

    Some walkers may do far more than others.
    """
    entries, found = (BEGIN,) * many, list(ahead)
    for _, walker in ahead:
        entries = next_deed(rule, entries, walker)[0]
    shares = [chance.choice((1, 1, 2, 12)) for _ in range(many)]
    for _ in range(length):
        walker = chance.choices(range(many), shares)[0]
        entries, word, _, _ = next_deed(rule, entries, walker)
        found.append((word, walker))
    for walker in range(many) if chance.random() < 0.6 else ():
        while entries[walker][1] != "idle":
            entries, word, _, _ = next_deed(rule, entries, walker)
            found.append((word, walker))
    return tuple(found)


def near_rule(chance, changes):
    """The fine rule, with so many lamps put in or left out."""
    guards = [[list(some), list(none)] for some, none in FINE]
    for _ in range(changes):
        lamps = chance.choice(chance.choice(guards))
        lamp = chance.choice(LAMPS)
        if lamp in lamps:
            lamps.remove(lamp)
        else:
            lamps.append(lamp)
    return tuple((tuple(sorted(some)), tuple(sorted(none))) for some, none in guards)
