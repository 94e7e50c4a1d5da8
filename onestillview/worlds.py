"""Worlds: what standings are come to, which claims hold in them, and what surely comes."""

from onestillview.beats import is_of_kind, left, run
from onestillview.bringing import whole_log
from onestillview.checks import check_floor, check_standing, is_integer, is_tuple_of, is_within
from onestillview.claims import check_claim, holds_in
from onestillview.errors import BadKind, BadLog, BadMany, BadMost
from onestillview.halls import replayed
from onestillview.lamps import fine_rule, lit_of
from onestillview.texts import check_start
from onestillview.ways import InBeats, InOwnTime, explored, longest_ways, nodes_without, way_for_ever, way_to

WORLDS = ("full", "one", "some", "eras", "own", "lit")
SURE_WORLDS = ("full", "eras", "lit")
MOST_IN_OWN_TIME = 2
MOST_STANDINGS = 20000


def meets(floor, standing, claim):
    """Whether the CLAIM holds of the STANDING."""
    check_floor(floor)
    check_standing(floor, standing)
    check_claim(claim)
    return holds_in(floor, standing, claim)


def check_most(value):
    """Refuses what is no bound for how many standings are come to."""
    if not is_within(value, 1, MOST_STANDINGS):
        raise BadMost(value)


def check_kind_among(kinds, value):
    """Refuses what is none of these words."""
    if value not in kinds:
        raise BadKind(value)


def check_beginning(kind, program, floor, standing):
    """Refuses what this world cannot begin with."""
    check_start(program, floor, standing)
    if kind == "own" and len(standing) > MOST_IN_OWN_TIME:
        raise BadMany(len(standing))


def kind_of(kind):
    """The kind of the LOTS by which what is come to in this world is told."""
    # What walkers with lamps come to is what runs in eras come to.
    return "eras" if kind == "lit" else kind


def world_of(kind, program, floor, standing):
    """The world that this word tells, from this standing on."""
    if kind == "own":
        return InOwnTime(program, floor, standing)
    return InBeats(kind_of(kind), program, floor, standing)


def come_to(kind, program, floor, standing, most):
    """All STANDINGS that are come to in this world, ascending."""
    check_kind_among(WORLDS, kind)
    check_beginning(kind, program, floor, standing)
    check_most(most)
    nodes, _ = explored(world_of(kind, program, floor, standing), most)
    return tuple(sorted(nodes))


def check_claimed(kinds, kind, program, floor, standing, claim, most):
    """Refuses what is wrong about a claim in a world of these words."""
    check_kind_among(kinds, kind)
    check_beginning(kind, program, floor, standing)
    check_claim(claim)
    check_most(most)


def holds(kind, program, floor, standing, claim, most):
    """("holds", how many STANDINGS are come to), or ("breaks", how one is come to of which the claim doesn't hold)."""
    check_claimed(WORLDS, kind, program, floor, standing, claim, most)
    nodes, came = explored(world_of(kind, program, floor, standing), most)
    breaking = [node for node in nodes.values() if not holds_in(floor, node[0], claim)]
    if not breaking:
        return ("holds", len(nodes))
    how = way_to(came, breaking[0])
    return ("breaks", whole_log(len(standing), how) if kind == "lit" else how)


def led_to(kind, program, floor, standing, how):
    """The STANDING to which any value leads in this world, None if it isn't what leads to one."""
    if kind not in ("own", "lit"):
        return run(program, floor, standing, how)[-1] if is_of_kind(kind, len(standing), how) else None
    try:
        if kind == "own":
            hall = replayed(program, floor, standing, how)
        else:
            hall = lit_of(program, floor, standing, fine_rule(), how)
    except BadLog:
        return None
    return hall.standing if all([stage == "idle" for stage in hall.stages]) else None


def is_count(word, many, value):
    """Whether any value is this word with just this number."""
    return is_tuple_of(value, 2) and value[0] == word and is_integer(value[1]) and value[1] == many


def shows_holds(kind, program, floor, standing, claim, most, value):
    """Whether any value is right as what holds tells."""
    told = holds(kind, program, floor, standing, claim, most)
    if told[0] == "holds":
        return is_count("holds", told[1], value)
    if not is_tuple_of(value, 2) or value[0] != "breaks":
        return False
    reached = led_to(kind, program, floor, standing, value[1])
    return reached is not None and not holds_in(floor, reached, claim)


def surely(kind, program, floor, standing, claim, most):
    """("surely", the most lots ahead of the claim), or ("never", ahead, again): LOTS without it, then for ever."""
    check_claimed(SURE_WORLDS, kind, program, floor, standing, claim, most)
    world = world_of(kind, program, floor, standing)
    # Only to refuse what is too wide, with or without the claim.
    explored(world, most)
    without = nodes_without(world, lambda node: holds_in(floor, node[0], claim))
    longest = longest_ways(world, without)
    if len(longest) == len(without):
        return ("surely", longest.get(world.begin, 0))
    endless = {node: True for node in without if node not in longest}
    ahead, again = way_for_ever(world, endless)
    return ("never", ahead, again)


def is_never(kind, program, floor, standing, claim, value):
    """Whether any value is ("never", ahead, again), right by itself."""
    if not is_tuple_of(value, 3) or value[0] != "never":
        return False
    _, ahead, again = value
    many = len(standing)
    if not isinstance(ahead, tuple) or not isinstance(again, tuple) or again == ():
        return False
    if not is_of_kind(kind, many, ahead + again) or left(many, ahead) != left(many, ahead + again):
        return False
    standings = run(program, floor, standing, ahead + again)
    if any([holds_in(floor, passed, claim) for passed in standings]):
        return False
    return standings[len(ahead)] == standings[-1]


def shows_surely(kind, program, floor, standing, claim, most, value):
    """Whether any value is right as what surely tells."""
    told = surely(kind, program, floor, standing, claim, most)
    if told[0] == "surely":
        return is_count("surely", told[1], value)
    return is_never(kind_of(kind), program, floor, standing, claim, value)


def explored_astray(program, floor, standing, most):
    """(nodes, came) of the world "own", those nodes alone whose standings are not come to in the world "some"."""
    check_beginning("own", program, floor, standing)
    check_most(most)
    nodes, came = explored(InOwnTime(program, floor, standing), most)
    in_beats, _ = explored(InBeats("some", program, floor, standing), most)
    return [node for node in nodes.values() if node[0] not in in_beats], came


def astray(program, floor, standing, most):
    """A LOG of a Hall to a STANDING that is not come to in the world "some", None if there is none."""
    nodes, came = explored_astray(program, floor, standing, most)
    return way_to(came, nodes[0]) if nodes else None


def shows_astray(program, floor, standing, most, value):
    """Whether any value is right as what astray tells."""
    nodes, _ = explored_astray(program, floor, standing, most)
    if value is None:
        return not nodes
    reached = led_to("own", program, floor, standing, value)
    return any([node[0] == reached for node in nodes])
