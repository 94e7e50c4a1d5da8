"""Deeds: what Halls and Lits have in common. Both are called hall here."""

from onestillview.checks import check_walker, is_tuple_of
from onestillview.errors import BadDeed, BadLog, BadWalker, Busy, NoLook, NoThought
from onestillview.texts import place_behind, thought_of

WORDS = ("look", "think", "step")
# For each word of a deed, the stage at which its walker is behind it.
STAGES_BEHIND = {"look": "looked", "think": "thought", "step": "idle"}


def replaced(entries, number, entry):
    """These entries, with this one in the place of that with this number."""
    return entries[:number] + (entry,) + entries[number + 1:]


def check_idle(hall, walker):
    """Refuses a walker that there is not, or that cannot look now."""
    check_walker(hall.standing, walker)
    if hall.stages[walker] != "idle":
        raise Busy(walker)


def check_looked(hall, walker):
    """Refuses a walker that there is not, or that cannot think now."""
    check_walker(hall.standing, walker)
    if hall.stages[walker] != "looked":
        raise NoLook(walker)


def check_thought(hall, walker):
    """Refuses a walker that there is not, or that cannot step now."""
    check_walker(hall.standing, walker)
    if hall.stages[walker] != "thought":
        raise NoThought(walker)


def note_deed(hall, word, walker, holding):
    """Notes this deed, and what the walker holds behind it."""
    hall.log = hall.log + ((word, walker),)
    hall.stages = replaced(hall.stages, walker, STAGES_BEHIND[word])
    hall.holding = replaced(hall.holding, walker, holding)


def take_mark(hall, walker, seen):
    """Gives the walker the mark that it thinks by the VIEW seen, and returns the step."""
    step, mark = thought_of(hall.program, hall.floor, seen)
    place, _, sense = hall.standing[walker]
    hall.standing = replaced(hall.standing, walker, (place, mark, sense))
    return step


def take_step(hall, walker):
    """Moves the walker by the step that it holds, from where it stands now."""
    place, mark, sense = hall.standing[walker]
    reached = place_behind(hall.floor, place, sense, hall.holding[walker])
    hall.standing = replaced(hall.standing, walker, (reached, mark, sense))


def held_by(hall, walker):
    """What the walker holds, None if it is idle."""
    check_walker(hall.standing, walker)
    return hall.holding[walker]


def do_deed(hall, deed):
    """Does this deed; refuses what has not the form of one."""
    if not is_tuple_of(deed, 2) or deed[0] not in WORDS:
        raise BadDeed(deed)
    word, walker = deed
    if word == "look":
        hall.look(walker)
    elif word == "think":
        hall.think(walker)
    else:
        hall.step(walker)


def do_log(hall, log):
    """Does these deeds one behind another; refuses what is no LOG."""
    if not isinstance(log, tuple):
        raise BadLog(None)
    for number, deed in enumerate(log):
        try:
            hall.do(deed)
        except (BadDeed, BadWalker, Busy, NoLook, NoThought):
            raise BadLog(number) from None


def copy_deeds(hall, other):
    """Lets other, which began as hall did, be where hall is now."""
    other.standing = hall.standing
    other.stages = hall.stages
    other.log = hall.log
    other.holding = hall.holding
