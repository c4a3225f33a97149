"""By how many signs what one program writes is longer than what another one writes, node by node, at most."""

from passtexts.climbing import Climb, Nodes
from passtexts.heights import JointSteps, heights_at_ends
from passtexts.living import first_signs
from passtexts.paths import pairs_into


class Longer:
    """The nodes of two programs that come up from the ends both have.

    ends is the dict of the nodes at ends, with by how many signs the texts in the first row are longer; starts that of
    the numbers of the nodes at the first states, with by how many signs the first contents are longer.
    """

    def __init__(self, one, other):
        into = pairs_into(one, other)
        self.ends = heights_at_ends(one, other, into)
        self.nodes = Nodes(self.ends, StepsBack(one, other, into))
        self.starts = {}
        for number, node in enumerate(self.nodes.told):
            if (node[0], node[2]) == (0, 0):
                self.starts[number] = first_signs(one, node[1]) - first_signs(other, node[3])

    def climb(self):
        """The climb from the ends to the greatest heights."""
        return Climb(self.nodes, self.nodes.edges, [self.ends.get(node) for node in self.nodes.told])

    def greatest(self, heights):
        """The number of the node at the first states from which most is longer, None without such a node."""
        best = None
        for number in self.starts:
            if best is None or heights[number] + self.starts[number] > heights[best] + self.starts[best]:
                best = number
        return best

    def by_node(self, sums):
        """The dict of the nodes, ascending, with these sums, told by their numbers."""
        numbers = self.nodes.numbers
        return {node: sums[numbers[node]] for node in sorted(numbers)}

    def are_heights(self, heights, most):
        """Whether these are heights of all nodes, none too low, that come to no more than a number at the start."""
        told = self.nodes.told
        if len(heights) != len(told) or not all([node in heights for node in told]):
            return False
        if not all([heights[node] >= self.ends[node] for node in self.ends]):
            return False
        for number, node in enumerate(told):
            if not all([heights[told[ahead]] >= heights[node] + many for ahead, many in self.nodes.edges[number]]):
                return False
        return all([heights[told[number]] + self.starts[number] <= most for number in self.starts])


class StepsBack:
    """The steps back from nodes of two programs."""

    def __init__(self, one, other, into):
        self.into = into
        self.steps = JointSteps(one, other)

    def ones_ahead(self, node):
        """The list of the triples of a node ahead of a node, by how many signs more are put in, and the letter."""
        found = []
        for before, letter in self.into[(node[0], node[2])]:
            ahead, more = self.steps.ahead(before, letter, node)
            found.append((ahead, more, letter))
        return found
