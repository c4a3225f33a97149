"""The greatest sums of walks, from the ends of texts back, or a ring that raises them for ever."""

from passtexts.rings import node_on_ring, parts_of, turned_about


class Nodes:
    """The nodes that come up from some first ones, numbered in the list told.

    steps.ones_ahead(node) tells the triples of a node ahead of a letter that comes ahead of a node, how much the letter
    puts in, and the letter. edges is the list, by number, of the lists of the pairs of the number of a node ahead and
    how much is put in; letters has the letters of these edges; rests leads from each node on to one of the first ones.
    """

    def __init__(self, firsts, steps):
        self.told = list(firsts)
        self.numbers = {node: number for number, node in enumerate(self.told)}
        self.edges = []
        self.letters = []
        self.rests = Steps()
        at = 0
        while at < len(self.told):
            self.follow(at, steps.ones_ahead(self.told[at]))
            at = at + 1

    def follow(self, number, found):
        """Puts edges from a node to these ones: triples of a node, a sum and a letter."""
        edges = []
        for node, many, letter in found:
            if node not in self.numbers:
                self.numbers[node] = len(self.told)
                self.told.append(node)
                self.rests.put(self.numbers[node], number, letter)
            edges.append((self.numbers[node], many))
        self.edges.append(edges)
        self.letters.append([letter for _, _, letter in found])


class Steps:
    """For some nodes the one behind them, and the letter between them."""

    def __init__(self):
        self.following = {}
        self.letters = {}

    def put(self, node, following, letter):
        """Tells the node behind a node."""
        self.following[node] = following
        self.letters[node] = letter

    def text(self, node):
        """The letters from a node on, as far as ones behind are told."""
        found = []
        while node in self.following:
            found.append(self.letters[node])
            node = self.following[node]
        return "".join(found)

    def ring_text(self, node):
        """The letters of the ring from a node back to itself."""
        found = [self.letters[node]]
        at = self.following[node]
        while at != node:
            found.append(self.letters[at])
            at = self.following[at]
        return "".join(found)


class Climb:
    """Raises the sums of nodes along edges, from those that are told for some nodes (None for the others).

    sums are the greatest ones then, and way leads back along them; or ring is a node on a ring that raises sums for
    ever, and way leads around it. Otherwise ring is None.
    """

    def __init__(self, nodes, edges, sums):
        self.nodes = nodes
        self.edges = edges
        self.sums = list(sums)
        self.way = Steps()
        self.ring = None
        for part in parts_of(edges, turned_about(edges)):
            if self.ring is None:
                self.ring = self.settle(part)

    def settle(self, part):
        """Raises the sums of a part, when those ahead of it are settled; a node on a ring, None without one."""
        inside = {node: True for node in part}
        raised = {node: True for node in part if self.sums[node] is not None}
        while raised:
            # nodes far from the root of the part are met first, so that a sum goes all the way around in one turn
            for node in reversed(part):
                if node in raised:
                    raised.pop(node)
                    for following in self.lift(node):
                        if following in inside:
                            raised[following] = True
            came = {node: self.way.following[node] for node in part if self.way.following.get(node) in inside}
            ring = node_on_ring(came) if raised else None
            if ring is not None:
                return ring
        return None

    def lift(self, node):
        """The list of the nodes whose sums are raised from a node."""
        found = []
        for number, (following, many) in enumerate(self.edges[node]):
            total = self.sums[node] + many
            if self.sums[following] is None or self.sums[following] < total:
                self.sums[following] = total
                self.way.put(following, node, self.nodes.letters[node][number])
                found.append(following)
        return found
