"""How many signs the letters of a program put in, node by node, from the ends back.

A node is a pair of a state and its live registers.
"""

from passtexts.climbing import Climb, Nodes
from passtexts.living import Living, first_signs
from passtexts.paths import steps_into
from passtexts.rows import ascending, names_in, signs_in


class LiveNodes:
    """The nodes of a thrifty program.

    ends is the dict of the nodes at ends, with how many signs the texts in the row have; starts that of the numbers of
    the nodes at the first state, with how many signs the first contents have.
    """

    def __init__(self, program):
        steps = LiveSteps(program)
        self.ends = {}
        for state in program.ends:
            if state in steps.into:
                row = program.ends[state]
                self.ends[(state, ascending(names_in(row)))] = signs_in(row)
        self.nodes = Nodes(self.ends, steps)
        self.starts = {}
        for number, node in enumerate(self.nodes.told):
            if node[0] == 0:
                self.starts[number] = first_signs(program, node[1])

    def at_ends(self):
        """The list of how many signs the texts in the rows at the end have, None for other nodes."""
        return [self.ends.get(node) for node in self.nodes.told]

    def climb(self):
        """The climb to the greatest numbers of signs from the nodes to the end."""
        return Climb(self.nodes, self.nodes.edges, self.at_ends())

    def climb_beside(self, top, below):
        """The climb by below times the signs that are put in, less top, from all nodes."""
        edges = [[(ahead, below * many - top) for ahead, many in told] for told in self.nodes.edges]
        return Climb(self.nodes, edges, [0 for _ in edges])

    def greatest(self, sums):
        """The greatest of these sums, told by nodes (None for some), with the first contents, None without one."""
        found = [sums[number] + self.starts[number] for number in self.starts if sums[number] is not None]
        return max(found, default=None)

    def one_letter_on(self, sums):
        """The list of the greatest sums one letter ahead of the nodes that have some, None for the others."""
        found = [None for _ in sums]
        for number, total in enumerate(sums):
            if total is not None:
                for ahead, many in self.nodes.edges[number]:
                    if found[ahead] is None or found[ahead] < total + many:
                        found[ahead] = total + many
        return found

    def rise(self, heights, top, below):
        """Whether these are heights of all nodes that rise with each letter by below times its signs, less top."""
        told = self.nodes.told
        if len(heights) != len(told) or not all([node in heights for node in told]):
            return False
        for number, node in enumerate(told):
            for ahead, many in self.nodes.edges[number]:
                if heights[told[ahead]] - heights[node] < below * many - top:
                    return False
        return True


class LiveSteps:
    """The steps back from nodes of a program."""

    def __init__(self, program):
        self.into = steps_into(program)
        self.living = Living(program)

    def ones_ahead(self, node):
        """The list of the triples of a node ahead of a node, how many signs are put in, and the letter."""
        found = []
        for state, letter in self.into[node[0]]:
            live, many = self.living.ahead(state, letter, node[1])
            found.append(((state, live), many, letter))
        return found


def signs_along(program, state, text, live):
    """How many signs the letters of a text put in that leads from a state to where these registers are live."""
    path = [state]
    for letter in text:
        path.append(program.steps[(path[-1], letter)][0])
    living = Living(program)
    total = 0
    for place in reversed(range(len(text))):
        live, many = living.ahead(path[place], text[place], live)
        total = total + many
    return total
