"""Halls and Lits told anew, deed by deed, as points 7 and 8 say it."""

from onestillview.texts import thought
from tests.helpers import NO_NUMBERS, NO_TUPLES, STILL, told_view, walked

LAMPS = ("wait", "try", "go", "step", "done", "reset")
CHANGES = (
    ("wait", "try"), ("try", "go"), ("go", "step"), ("go", "wait"), ("step", "done"), ("done", "reset"),
    ("reset", "wait"),
)
NONE = ((), ())
# By this rule each change is due whatever is seen.
OPEN = (NONE,) * 7
CYCLE = (("look", 0), ("think", 0), ("step", 0))
# None of these has the form of a DEED.
BAD_DEEDS = NO_TUPLES + (
    "look", "look 0", (), ("look",), ("look", 0, 0), ("look", 0, None), ["look", 0], ("Look", 0), ("go", 0),
    ("do", 0), ("held", 0), ("", 0), (None, 0), (0, "look"), (0, 0), (True, 0), (("look",), 0), (["look"], 0),
    ({}, 0), (STILL, 0), ("looks", 0), ("thought", 0), ("idle", 0), {"look": 0}, (("look", 0),), ((), ()),
)
NO_WALKERS = NO_NUMBERS + (-1, -2, 2, 3, 5, 123456789)


def told_due(rule, lamp, others):
    """The number of the first change from this lamp whose guard holds for the lamps of all others."""
    for number in range(7):
        some, none = rule[number]
        is_some = some == () or len(set(some) & set(others)) > 0
        if CHANGES[number][0] == lamp and is_some and len(set(none) & set(others)) == 0:
            return number
    return None


class Model:
    """A Hall, or a Lit if there is a rule."""

    def __init__(self, program, floor, standing, rule=None):
        self.program, self.floor, self.rule = program, floor, rule
        self.standing = standing
        self.stages = ["idle" for _ in standing]
        self.lamps = ["wait" for _ in standing]
        self.hands = [None for _ in standing]
        self.thoughts = [0 for _ in standing]
        self.log = []

    def do(self, word, walker):
        """Does the deed if it can be done now; whether it was."""
        needed, then = {"look": ("idle", "looked"), "think": ("looked", "thought"), "step": ("thought", "idle")}[word]
        if self.stages[walker] != needed:
            return False
        {"look": self.look, "think": self.think, "step": self.step}[word](walker)
        self.stages[walker] = then
        self.log.append((word, walker))
        return True

    def look(self, walker):
        seen = told_view(self.floor, self.standing, walker)
        if self.rule is None:
            self.hands[walker] = seen
        else:
            others = self.lamps[:walker] + self.lamps[walker + 1:]
            self.hands[walker] = (seen, told_due(self.rule, self.lamps[walker], others))

    def think(self, walker):
        seen = self.hands[walker]
        self.hands[walker] = 0
        if self.rule is not None:
            seen, number = seen
            if number is not None:
                self.lamps[walker] = CHANGES[number][1]
            if number != 2:
                return
            self.thoughts[walker] += 1
        step, mark = thought(self.program, self.floor, seen)
        self.place(walker, self.standing[walker][0], mark)
        self.hands[walker] = step

    def step(self, walker):
        place, mark, sense = self.standing[walker]
        reached = walked(self.floor, place, sense * self.hands[walker])
        self.place(walker, place if reached is None else reached, mark)
        self.hands[walker] = None

    def place(self, walker, place, mark):
        """Lets the walker stand at this place with this mark."""
        entry = (place, mark, self.standing[walker][2])
        self.standing = self.standing[:walker] + (entry,) + self.standing[walker + 1:]

    def told(self):
        """All that a Hall tells of itself, and behind it, if there is a rule, what a Lit does."""
        many = len(self.standing)
        found = (self.standing, tuple(self.stages), tuple(self.log), tuple(self.hands[each] for each in range(many)))
        return found if self.rule is None else found + (tuple(self.lamps),)


def told_of(hall):
    """The same of a Hall or a Lit itself."""
    many = len(hall.standing)
    found = (hall.standing, hall.stages, hall.log, tuple(hall.held(walker) for walker in range(many)))
    return found + (hall.lamps,) if hasattr(hall, "lamps") else found


def random_deeds(chance, many, length):
    """So many pairs of a deed's word and a walker, whether they can be done or not."""
    return [(chance.choice(("look", "think", "step")), chance.randrange(many)) for _ in range(length)]


def random_log(chance, many, length, has_pending=True):
    """A LOG of so many deeds or, unless somebody may hold something at its end, a few more."""
    stages, log = [0] * many, []
    while len(log) < length or not has_pending and any(stages):
        walkers = [each for each in range(many) if stages[each]] if len(log) >= length else range(many)
        walker = chance.choice(walkers)
        log.append((("look", "think", "step")[stages[walker]], walker))
        stages[walker] = (stages[walker] + 1) % 3
    return tuple(log)


def random_rule(chance, most=3):
    """Some RULE with few lamps in its guards."""
    return tuple(
        tuple(tuple(sorted(chance.sample(LAMPS, chance.randint(0, most)))) for _ in range(2)) for _ in range(7)
    )
