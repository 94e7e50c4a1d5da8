"""The errors: each of them keeps, as value, what is wrong."""


class WalkError(ValueError):
    """What all errors of the package derive from."""

    def __init__(self, value):
        self.value = value


class NoProgram(WalkError):
    """What is no Program stands where one is told."""


class BadProgram(WalkError):
    """A text is no program: the number of its first line that cannot stand, 0 for what is no string."""


class BadFloor(WalkError):
    """What is no FLOOR."""


class BadPlace(WalkError):
    """What is no place of the floor."""


class BadSteps(WalkError):
    """What is no integer from -99 to 99."""


class BadStanding(WalkError):
    """What is no STANDING on the floor."""


class BadWalker(WalkError):
    """What is no number of a walker in the standing."""


class BadView(WalkError):
    """What is no VIEW on the floor with marks of the program."""


class BadTurn(WalkError):
    """What is no number of steps by which the floor can be turned."""


class BadMirror(WalkError):
    """What is no bool where it is told whether to mirror."""


class BadSense(WalkError):
    """What is neither 1 nor -1 where a sense is told."""


class BadStep(WalkError):
    """What is none of 1, 0 and -1 where a step is told."""


class BadLot(WalkError):
    """What is no LOT."""


class BadLots(WalkError):
    """What are no LOTS of the kind that is told."""


class BadKind(WalkError):
    """What is none of the words for a kind or a world."""


class BadMany(WalkError):
    """What is no number within the bounds that are told."""


class Busy(WalkError):
    """A walker that is not idle cannot look."""


class NoLook(WalkError):
    """A walker that has not looked cannot think."""


class NoThought(WalkError):
    """A walker that has not thought cannot step."""


class BadDeed(WalkError):
    """What has not the form of a DEED."""


class BadLog(WalkError):
    """What is no LOG: the number of the first deed that is none or is refused, None for what is no tuple."""


class Pending(WalkError):
    """Somebody is not idle."""


class BadRule(WalkError):
    """What is no RULE."""


class BadLamp(WalkError):
    """What is no LAMP."""


class BadSeen(WalkError):
    """What is no ascending tuple of LAMPS."""


class NotFine(WalkError):
    """A rule that is not the fine one."""


class BadNumber(WalkError):
    """What is no number of a round."""


class BadSizes(WalkError):
    """What are no sizes of lots in eras."""


class BadWord(WalkError):
    """What is no word for a fault."""


class BadWeaving(WalkError):
    """What is no WEAVING."""


class BadClaim(WalkError):
    """What is no CLAIM."""


class BadMost(WalkError):
    """What is no bound for how many standings are let."""


class Wide(WalkError):
    """More standings are come to than are let."""


class BadTimes(WalkError):
    """What is no number of times that is let."""


class NothingToUndo(WalkError):
    """No deed stands that could be taken back."""


class NothingToRedo(WalkError):
    """No deed was taken back that could be done again."""


class NoBlock(WalkError):
    """A trial is to be kept outside of all trials."""


class BadJournal(WalkError):
    """A text is no journal: the number of the line that is wrong, 0 for what is no string."""


class BadTask(WalkError):
    """What is no line that the desk knows."""
