"""Told runs told anew, deed by deed, as point 9 says it."""

from onestillview.lamps import fine_rule
from tests.helpers import told_beat
from tests.models import NONE, OPEN, Model

FINE = fine_rule()
# Not fine: by this rule each one steps as soon as it can, whatever others show.
RASH = FINE[:1] + (NONE,) * 6
# Fine but for the one lamp that keeps who goes from stepping while another one steps.
HASTY = FINE[:2] + (((), ("try",)),) + FINE[3:]
ALL_BUT_FINE = (RASH, OPEN, HASTY, FINE[:6] + (NONE,), (NONE,) + FINE[1:])


class Teller:
    """Walkers with the fine rule, and their rounds as they grow."""

    def __init__(self, program, floor, first):
        self.program, self.floor, self.first = program, floor, first
        self.model = Model(program, floor, first, FINE)
        # Each round a dict: walker to [VIEW, look, think, step], the numbers of its deeds, None if not done.
        self.rounds = []
        self.is_over = True

    def do(self, word, walker):
        """Does the deed if it can be done now; whether it was."""
        number = len(self.model.log)
        if not self.model.do(word, walker):
            return False
        if word == "look" and self.model.hands[walker][1] == 2:
            if self.is_over:
                self.rounds.append({})
                self.is_over = False
            self.rounds[-1][walker] = [self.model.hands[walker][0], number, None, None]
        elif word != "look":
            self.note(word, walker, number)
        return True

    def note(self, word, walker, number):
        """Notes a think or a step deed, if it belongs to a step look."""
        for members in self.rounds:
            told = members.get(walker)
            if told is not None and word == "think" and told[2] is None:
                told[2] = number
            elif told is not None and word == "step" and told[2] is not None and told[3] is None:
                told[3] = number
                self.is_over = self.is_over or members is self.rounds[-1]

    def lots(self):
        """The told LOTS."""
        return tuple(tuple(sorted(members)) for members in self.rounds)

    def standings(self):
        """The STANDINGS of the told run."""
        found = [self.first]
        for lot in self.lots():
            found.append(told_beat(self.program, self.floor, found[-1], lot))
        return tuple(found)

    def views(self, number):
        """(walker, VIEW) of this round."""
        return tuple((walker, told[0]) for walker, told in sorted(self.rounds[number].items()))

    def pending(self):
        """Who is pending, and for what."""
        last = self.rounds[-1] if self.rounds else {}
        return tuple(
            (walker, "look" if told[2] is None else "step") for walker, told in sorted(last.items()) if told[3] is None
        )

    def times(self, walker):
        """(look, think, step) of this walker's step looks."""
        return tuple(tuple(members[walker][1:]) for members in self.rounds if walker in members)

    def standing_of_run(self):
        """Where all stand if the run is right: as behind the last lot, but for those who are pending."""
        standings = self.standings()
        found = list(standings[-1])
        for walker, word in self.pending():
            ahead = standings[-2][walker]
            found[walker] = ahead if word == "look" else (ahead[0], found[walker][1], ahead[2])
        return tuple(found)


def told_behind(program, floor, first, log):
    """The Teller behind this log, which can be done."""
    teller = Teller(program, floor, first)
    for word, walker in log:
        if not teller.do(word, walker):
            raise AssertionError("this log cannot be done")
    return teller


def eager_log(chance, program, floor, first, length):
    """A LOG of about so many deeds with the fine rule, in which looks by which nothing is due are seldom."""
    teller = Teller(program, floor, first)
    many = len(first)
    for _ in range(length):
        walker = chance.randrange(many)
        word = {"idle": "look", "looked": "think", "thought": "step"}[teller.model.stages[walker]]
        if word == "look" and chance.random() < 0.8:
            ready = [other for other in range(many) if teller.model.stages[other] == "idle" and is_due(teller, other)]
            walker = chance.choice(ready or [walker])
        teller.do(word, walker)
    return tuple(teller.model.log)


def is_due(teller, walker):
    """Whether a look of this idle walker has a change due."""
    other = Model(teller.program, teller.floor, teller.model.standing, FINE)
    other.lamps = list(teller.model.lamps)
    other.do("look", walker)
    return other.hands[walker][1] is not None
