"""Beats: lots of walkers who look, think and step at once."""

from onestillview.checks import are_lots, check_many, is_lot
from onestillview.errors import BadKind, BadLot, BadLots
from onestillview.floors import view_of
from onestillview.texts import check_start, place_behind, thought_of

KINDS = ("full", "one", "some", "eras")


def entry_behind(program, floor, standing, walker):
    """The (place, mark, sense) of this walker behind a beat of a lot that it is in."""
    place, _, sense = standing[walker]
    step, mark = thought_of(program, floor, view_of(floor, standing, walker))
    return (place_behind(floor, place, sense, step), mark, sense)


def standing_behind(program, floor, standing, lot):
    """The standing behind a beat of this lot, all of this being known to be right."""
    entries = []
    for walker, entry in enumerate(standing):
        # Each one sees the standing ahead of the beat, whoever else is in the lot.
        entries.append(entry_behind(program, floor, standing, walker) if walker in lot else entry)
    return tuple(entries)


def beat(program, floor, standing, lot):
    """The STANDING behind one beat of this LOT."""
    check_start(program, floor, standing)
    if not is_lot(len(standing), lot):
        raise BadLot(lot)
    return standing_behind(program, floor, standing, lot)


def run(program, floor, standing, lots):
    """The STANDINGS of these LOTS: this one first, then the one behind each lot."""
    check_start(program, floor, standing)
    if not are_lots(len(standing), lots):
        raise BadLots(lots)
    standings = [standing]
    for lot in lots:
        standings.append(standing_behind(program, floor, standings[-1], lot))
    return tuple(standings)


def cut_in_eras(many, lots):
    """The eras of these LOTS, None if somebody is in two lots of one of them."""
    found = []
    missing = []
    for lot in lots:
        if len(missing) == 0:
            found.append([])
            missing = list(range(many))
        if not all([walker in missing for walker in lot]):
            return None
        found[-1].append(lot)
        missing = [walker for walker in missing if walker not in lot]
    return tuple([tuple(era) for era in found])


def is_of_kind(kind, many, value):
    """Whether any value is LOTS of what is known to be a kind, for so many walkers."""
    if not are_lots(many, value):
        return False
    if kind == "full":
        return all([len(lot) == many for lot in value])
    if kind == "one":
        return all([len(lot) == 1 for lot in value])
    return kind == "some" or cut_in_eras(many, value) is not None


def check_kind(value):
    """Refuses what is no word for a kind of LOTS."""
    if value not in KINDS:
        raise BadKind(value)


def check_lots(kind, many, value):
    """Refuses what is no LOTS of this kind for so many walkers."""
    if not is_of_kind(kind, many, value):
        raise BadLots(value)


def is_kind(kind, many, value):
    """Whether any value is LOTS of this kind for so many walkers."""
    check_kind(kind)
    check_many(many)
    return is_of_kind(kind, many, value)


def eras(many, lots):
    """The eras of these LOTS, each the tuple of its lots in sequence."""
    check_many(many)
    check_lots("eras", many, lots)
    return cut_in_eras(many, lots)


def left(many, lots):
    """The walkers who are in no lot of the open era, all of them if none is open."""
    check_many(many)
    check_lots("eras", many, lots)
    last = cut_in_eras(many, lots)[-1:]
    present = [walker for era in last for lot in era for walker in lot]
    return tuple([walker for walker in range(many) if len(present) == many or walker not in present])


def lots_among(walkers):
    """Each single lot of these walkers, both ascending."""
    found = []
    for walker in walkers:
        found = found + [(*lot, walker) for lot in found] + [(walker,)]
    return sorted(found)


def next_lots(kind, many, lots):
    """Each single lot that can stand behind these LOTS, so that they stay of this kind."""
    check_kind(kind)
    check_many(many)
    check_lots(kind, many, lots)
    return tuple([lot for lot in lots_among(list(range(many))) if is_of_kind(kind, many, (*lots, lot))])
