"""What the functions of several files ask of the values that they are passed."""

from onestillview.errors import BadFloor, BadMany, BadPlace, BadStanding, BadWalker

MOST_MARK = 3
MOST_WALKERS = 5


def is_integer(value):
    """Whether it is an integer: True and False are none."""
    return isinstance(value, int) and not isinstance(value, bool)


def is_within(value, low, high):
    """Whether it is an integer from low to high."""
    return is_integer(value) and low <= value <= high


def is_tuple_of(value, many):
    """Whether it is a tuple with so many entries."""
    return isinstance(value, tuple) and len(value) == many


def is_ascending(value):
    """Whether the entries of this tuple are sorted, none of them twice."""
    return all([one < other for one, other in zip(value, value[1:])])


def is_mark(value):
    """Whether it is a MARK."""
    return is_within(value, 0, MOST_MARK)


def is_sense(value):
    """Whether it is a walker's sense."""
    return is_within(value, -1, 1) and value != 0


def is_floor(value):
    """Whether it is a FLOOR."""
    if not is_tuple_of(value, 2):
        return False
    kind, size = value
    if kind == "ring":
        return is_within(size, 3, 8)
    return kind == "row" and is_within(size, 1, 8)


def is_place(floor, value):
    """Whether it is a place of this floor."""
    return is_within(value, 0, floor[1] - 1)


def is_placed(floor, value):
    """Whether it is a (place, mark, sense) on this floor."""
    if not is_tuple_of(value, 3):
        return False
    place, mark, sense = value
    return is_place(floor, place) and is_mark(mark) and is_sense(sense)


def is_standing(floor, value):
    """Whether it is a STANDING on this floor."""
    if not isinstance(value, tuple) or not 1 <= len(value) <= MOST_WALKERS:
        return False
    return all([is_placed(floor, entry) for entry in value])


def is_lot(many, value):
    """Whether it is a LOT of so many walkers."""
    if not isinstance(value, tuple) or len(value) == 0:
        return False
    return all([is_within(walker, 0, many - 1) for walker in value]) and is_ascending(value)


def are_lots(many, value):
    """Whether it is LOTS of so many walkers."""
    return isinstance(value, tuple) and all([is_lot(many, lot) for lot in value])


def check_floor(value):
    """Refuses what is no FLOOR."""
    if not is_floor(value):
        raise BadFloor(value)


def check_place(floor, value):
    """Refuses what is no place of this floor."""
    if not is_place(floor, value):
        raise BadPlace(value)


def check_standing(floor, value):
    """Refuses what is no STANDING on this floor."""
    if not is_standing(floor, value):
        raise BadStanding(value)


def check_walker(standing, value):
    """Refuses what is no number of a walker in this standing."""
    if not is_within(value, 0, len(standing) - 1):
        raise BadWalker(value)


def check_many(value):
    """Refuses what is no number of walkers in a standing."""
    if not is_within(value, 1, MOST_WALKERS):
        raise BadMany(value)
