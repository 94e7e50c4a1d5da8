"""Floors, and what walkers on them see."""

from onestillview.checks import check_floor, check_place, check_standing, check_walker
from onestillview.checks import MOST_WALKERS, is_mark, is_tuple_of, is_within
from onestillview.errors import BadMirror, BadSteps, BadTurn

MOST_STEPS = 99


def place_at(floor, place, steps):
    """The place so many steps forth of a place of this floor, None without any."""
    kind, size = floor
    reached = place + steps
    if kind == "ring":
        return reached % size
    return reached if 0 <= reached < size else None


def at_distance(floor, place, steps):
    """The place so many steps forth of this one, back for steps below 0, None without any."""
    check_floor(floor)
    check_place(floor, place)
    if not is_within(steps, -MOST_STEPS, MOST_STEPS):
        raise BadSteps(steps)
    return place_at(floor, place, steps)


def cell_at(standing, walker, place):
    """The CELL of this place, as this walker sees it."""
    marks = [mark for number, (at, mark, _) in enumerate(standing) if at == place and number != walker]
    return tuple(sorted(marks))


def cells_towards(floor, standing, walker, sense):
    """The CELLS that this walker sees 1, 2, .. steps away from it in this sense."""
    own_place = standing[walker][0]
    places = [place_at(floor, own_place, sense * steps) for steps in range(1, floor[1])]
    return tuple([cell_at(standing, walker, place) for place in places if place is not None])


def view_of(floor, standing, walker):
    """The VIEW of this walker, of what is known to be a standing with this walker."""
    place, mark, sense = standing[walker]
    ahead = cells_towards(floor, standing, walker, sense)
    behind = cells_towards(floor, standing, walker, -sense)
    return (mark, cell_at(standing, walker, place), ahead, behind)


def view(floor, standing, walker):
    """The VIEW of this walker."""
    check_floor(floor)
    check_standing(floor, standing)
    check_walker(standing, walker)
    return view_of(floor, standing, walker)


def cells_seen(floor, seen):
    """The CELLS of all places in the VIEW seen, each place once."""
    _, here, ahead, behind = seen
    # All round a ring, what is behind is what is ahead once more.
    return [here, *ahead] if floor[0] == "ring" else [here, *ahead, *behind]


def is_cell(value):
    """Whether it is a CELL of however many walkers."""
    if not isinstance(value, tuple) or not all([is_mark(mark) for mark in value]):
        return False
    return value == tuple(sorted(value))


def are_cells(value):
    """Whether it is a tuple of CELLS."""
    return isinstance(value, tuple) and all([is_cell(cell) for cell in value])


def is_all_round(floor, ahead, behind):
    """Whether these are CELLS of as many places as the floor has beside a walker's own one."""
    kind, size = floor
    if kind == "ring":
        return len(ahead) == size - 1 and behind == ahead[::-1]
    return len(ahead) + len(behind) == size - 1


def is_view(floor, value):
    """Whether any value is the VIEW of a walker in some STANDING on this floor."""
    check_floor(floor)
    if not is_tuple_of(value, 4):
        return False
    mark, here, ahead, behind = value
    if not (is_mark(mark) and is_cell(here) and are_cells(ahead) and are_cells(behind)):
        return False
    if not is_all_round(floor, ahead, behind):
        return False
    return sum([len(cell) for cell in cells_seen(floor, value)]) < MOST_WALKERS


def turns_of(floor):
    """How many ways the floor can be turned."""
    kind, size = floor
    return size if kind == "ring" else 1


def turned_entry(floor, entry, by, is_mirrored):
    """The (place, mark, sense) that this one becomes."""
    place, mark, sense = entry
    if is_mirrored:
        return (place_at(floor, floor[1] - 1 - place, by), mark, -sense)
    return (place_at(floor, place, by), mark, sense)


def turned_standing(floor, standing, by, is_mirrored):
    """What is known to be a standing, mirrored if so told, then turned by so many steps."""
    return tuple([turned_entry(floor, entry, by, is_mirrored) for entry in standing])


def turned(floor, standing, by, is_mirrored):
    """The STANDING, mirrored if so told, then turned by so many steps forth."""
    check_floor(floor)
    check_standing(floor, standing)
    if not is_within(by, 0, turns_of(floor) - 1):
        raise BadTurn(by)
    if not isinstance(is_mirrored, bool):
        raise BadMirror(is_mirrored)
    return turned_standing(floor, standing, by, is_mirrored)


def likenesses(floor, one, other):
    """All (by, is_mirrored) for which one, turned so, is other, but for the walkers' numbers."""
    check_floor(floor)
    check_standing(floor, one)
    check_standing(floor, other)
    ways = [(by, is_mirrored) for by in range(turns_of(floor)) for is_mirrored in (False, True)]
    sought = sorted(other)
    return tuple([way for way in ways if sorted(turned_standing(floor, one, way[0], way[1])) == sought])


def twins(floor, standing):
    """All walkers, parted into those who have one VIEW, by their first ones."""
    check_floor(floor)
    check_standing(floor, standing)
    by_view = {}
    for walker in range(len(standing)):
        by_view.setdefault(view_of(floor, standing, walker), []).append(walker)
    return tuple([tuple(walkers) for walkers in by_view.values()])
