"""Ways through worlds: which nodes come of which, by lots or by deeds.

A node is a tuple, first of all the standing. What is left of what has been done is behind it.
"""

from onestillview.beats import entry_behind, lots_among
from onestillview.deeds import replaced
from onestillview.errors import Wide
from onestillview.floors import view_of
from onestillview.texts import place_behind, thought_of


class InBeats:
    """A world of beats. A node is (standing, those left in the era), in worlds without eras all of them."""

    def __init__(self, kind, program, floor, standing):
        self.kind = kind
        self.program = program
        self.floor = floor
        self.everybody = tuple(range(len(standing)))
        self.begin = (standing, self.everybody)
        # What was worked out once: the lots of some walkers, the entries of all behind a beat of all.
        self.known_lots = {}
        self.known_entries = {}

    def is_still(self, node):
        """Whether the standing of this node is come to in this world."""
        return True

    def lots_of(self, walkers):
        """The lots that there can be while these walkers are left."""
        if self.kind == "full":
            return [walkers]
        if self.kind == "one":
            return [(walker,) for walker in walkers]
        if walkers not in self.known_lots:
            self.known_lots[walkers] = lots_among(walkers)
        return self.known_lots[walkers]

    def entries_behind(self, standing):
        """For each walker its (place, mark, sense) behind a beat of a lot that it is in."""
        if standing not in self.known_entries:
            entries = [entry_behind(self.program, self.floor, standing, walker) for walker in self.everybody]
            self.known_entries[standing] = entries
        return self.known_entries[standing]

    def left_behind(self, remaining, lot):
        """Who is left behind this lot, if these were ahead of it."""
        if self.kind != "eras":
            return self.everybody
        found = tuple([walker for walker in remaining if walker not in lot])
        return self.everybody if found == () else found

    def moves(self, node):
        """(lot, node behind it) for each lot that there can be."""
        standing, remaining = node
        behind = self.entries_behind(standing)
        found = []
        for lot in self.lots_of(remaining):
            moved_to = tuple([behind[walker] if walker in lot else standing[walker] for walker in self.everybody])
            found.append((lot, (moved_to, self.left_behind(remaining, lot))))
        return found


class InOwnTime:
    """The world of Halls. A node is (standing, for each walker what it holds).

    It holds () if it is idle, (step, mark) if it looked, which it thinks by this look, (step,) if it thought.
    """

    def __init__(self, program, floor, standing):
        self.program = program
        self.floor = floor
        self.idle = ((),) * len(standing)
        self.begin = (standing, self.idle)

    def is_still(self, node):
        """Whether all are idle in this node."""
        return node[1] == self.idle

    def moves(self, node):
        """(deed, node behind it) for each deed that there can be."""
        return [self.move(node, walker) for walker in range(len(self.idle))]

    def move(self, node, walker):
        """(deed, node behind it) for the deed that this walker can do."""
        standing, holding = node
        place, mark, sense = standing[walker]
        held = holding[walker]
        if held == ():
            word, held = "look", thought_of(self.program, self.floor, view_of(self.floor, standing, walker))
        elif len(held) == 2:
            word, mark, held = "think", held[1], held[:1]
        else:
            word, place, held = "step", place_behind(self.floor, place, sense, held[0]), ()
        return ((word, walker), (replaced(standing, walker, (place, mark, sense)), replaced(holding, walker, held)))


def explored(world, most):
    """(nodes, came): a node for each standing that is come to; for each node (lot or deed, node ahead of it).

    Refuses a world in which more standings than most are come to.
    """
    nodes = {}
    came = {world.begin: None}
    fresh = [world.begin]
    while fresh:
        later = []
        for node in fresh:
            if world.is_still(node):
                nodes.setdefault(node[0], node)
            if len(nodes) > most:
                raise Wide(most)
            for way, behind in world.moves(node):
                if behind not in came:
                    came[behind] = (way, node)
                    later.append(behind)
        fresh = later
    return nodes, came


def way_to(came, node):
    """The lots or deeds that lead to this node."""
    found = []
    while came[node] is not None:
        way, node = came[node]
        found.append(way)
    return tuple(found[::-1])


def moves_among(world, nodes, node):
    """The moves from this node to one of these."""
    return [move for move in world.moves(node) if move[1] in nodes]


def nodes_without(world, ends):
    """All nodes that are come to without one that ends, as the keys of a dict."""
    found = {}
    fresh = [] if ends(world.begin) else [world.begin]
    for node in fresh:
        found[node] = True
    while fresh:
        later = []
        for node in fresh:
            for _, behind in world.moves(node):
                if behind not in found and not ends(behind):
                    found[behind] = True
                    later.append(behind)
        fresh = later
    return found


def longest_ways(world, nodes):
    """For each of these nodes from which no way leads on among them for ever: the most moves until none of them."""
    ahead = {node: [] for node in nodes}
    waiting = {}
    ended = []
    for node in nodes:
        among = moves_among(world, nodes, node)
        waiting[node] = len(among)
        for _, behind in among:
            ahead[behind].append(node)
        if not among:
            ended.append(node)
    found = {}
    while ended:
        node = ended.pop()
        found[node] = 1 + max([found[behind] for _, behind in moves_among(world, nodes, node)], default=0)
        for before in ahead[node]:
            waiting[before] -= 1
            if waiting[before] == 0:
                ended.append(before)
    return found


def way_for_ever(world, nodes):
    """(ahead, again): ways from the beginning among these nodes, each of which leads on: then again for ever."""
    node = world.begin
    met = {}
    ways = []
    while node not in met:
        met[node] = len(ways)
        way, node = moves_among(world, nodes, node)[0]
        ways.append(way)
    return tuple(ways[:met[node]]), tuple(ways[met[node]:])
