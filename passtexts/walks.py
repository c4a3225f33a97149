"""Walks whose sums come to 0, in a graph whose edges have sums."""

from math import gcd

from passtexts.errors import TooLarge
from passtexts.rings import parts_of, ring_sums, turned_about

MOST_MET = 1000000
FALLS = 1
RISES = 2
BOTH = 3


def comes_to_nothing(edges, source, goal):
    """Whether some walk from the source to the goal has the sum 0.

    edges is a list, by node, of lists of pairs of a next node and a sum. Rings of edges can be walked as often as
    wanted: where ones that raise the sum and ones that lessen it are met, a remainder of the sum alone counts, and
    elsewhere the sum cannot go too far beyond 0 and come back.
    """
    kept = leading(edges, goal)
    if source not in kept:
        return False
    inner = [[edge for edge in told if edge[0] in kept] if node in kept else [] for node, told in enumerate(edges)]
    walks = Walks(inner, source, goal)
    return walks.near(1) or walks.near(-1) or walks.far()


def leading(edges, goal):
    """The dict of the nodes from which one comes to the goal."""
    back = turned_about(edges)
    kept = {goal: True}
    waiting = [goal]
    while waiting:
        for node, _ in back[waiting.pop()]:
            if node not in kept:
                kept[node] = True
                waiting.append(node)
    return kept


class Walks:
    """The walks of a graph in which the goal is come to from all nodes that edges lead to."""

    def __init__(self, edges, source, goal):
        self.edges = edges
        self.source = source
        self.goal = goal
        self.edges_back = turned_about(edges)
        self.parts = parts_of(edges, self.edges_back)
        self.rings = [ring_sums(part, edges) for part in self.parts]
        self.where = {node: number for number, part in enumerate(self.parts) for node in part}

    def near(self, turn):
        """Whether a walk that meets no ring that lessens the sum (raises it, if turn is -1) has the sum 0."""
        rests = self.least_rests(turn)
        if self.source not in rests:
            return False
        met = {(self.source, 0): True}
        waiting = [(self.source, 0)]
        while waiting:
            node, total = waiting.pop()
            if node == self.goal and total == 0:
                return True
            for following, many in self.edges[node]:
                place = (following, total + turn * many)
                # a sum that is above 0 even with the least rest never comes down to 0
                if following in rests and place[1] + rests[following] <= 0 and place not in met:
                    put_down(met, place)
                    waiting.append(place)
        return False

    def least_rests(self, turn):
        """The dict of the least sums of walks from nodes to the goal that meet no ring that lessens them."""
        barred = FALLS if turn == 1 else RISES
        rests = {self.goal: 0}
        for number in reversed(range(len(self.parts))):
            if self.kind_of(number) & barred == 0:
                self.settle(number, rests, turn)
        return rests

    def settle(self, number, rests, turn):
        """Puts down the least sums of walks to the goal for the nodes of a part, when those behind it are known."""
        front = []
        for node in self.parts[number]:
            sums = [rests[following] + turn * many for following, many in self.edges[node] if following in rests]
            if sums and node != self.goal:
                rests[node] = min(sums)
            if node in rests:
                front.append(node)
        while front:
            lowered = {}
            for node in front:
                for before, many in self.edges_back[node]:
                    total = rests[node] + turn * many
                    if self.where[before] == number and (before not in rests or total < rests[before]):
                        rests[before] = total
                        lowered[before] = True
            front = list(lowered)

    def far(self):
        """Whether a walk that meets both rings that lessen the sum and ones that raise it has the sum 0.

        A place is told by a node, the kinds of such rings that were met, the greatest common divisor of the sums of
        all rings of the parts that were met, and the remainder of the sum (the sum itself as long as it is 0).
        """
        kinds = self.kinds_ahead()
        start = self.arrived(self.source, 0, 0, 0)
        met = {start: True}
        waiting = [start]
        while waiting:
            node, kind, divisor, total = waiting.pop()
            if node == self.goal and kind == BOTH and total == 0:
                return True
            for following, many in self.edges[node]:
                place = self.arrived(following, kind, divisor, total + many)
                useful = any([place[1] | ahead == BOTH for ahead in kinds[self.where[following]]])
                if useful and place not in met:
                    put_down(met, place)
                    waiting.append(place)
        return False

    def arrived(self, node, kind, divisor, total):
        """The place of a node that is come to."""
        sums = self.rings[self.where[node]][0]
        divisor = gcd(divisor, sums)
        return node, kind | self.kind_of(self.where[node]), divisor, total % divisor if divisor > 0 else total

    def kind_of(self, number):
        """The kinds of rings of a part, as a number: FALLS, RISES, their sum BOTH, or 0."""
        _, falls, rises = self.rings[number]
        return (FALLS if falls else 0) + (RISES if rises else 0)

    def kinds_ahead(self):
        """The list, by part, of the lists of the kinds that walks from it to the goal meet, taken together."""
        kinds = [[] for _ in self.parts]
        for number in reversed(range(len(self.parts))):
            kinds[number] = self.kinds_from(number, kinds)
        return kinds

    def kinds_from(self, number, kinds):
        """The kinds that walks from a part to the goal meet, when those of the parts behind it are known."""
        part = self.parts[number]
        behind = [kind for node in part for following, _ in self.edges[node] for kind in kinds[self.where[following]]]
        if self.goal in part:
            behind.append(0)
        return [kind | self.kind_of(number) for kind in sorted(set(behind))]


def put_down(met, place):
    """Puts a place down as met, as long as there are not too many."""
    if len(met) > MOST_MET:
        raise TooLarge("too many sums")
    met[place] = True
