"""By how many signs the rest of what one program writes is longer than that of another one, node by node.

A node is a quadruple of a state of the first program, its live registers, and the same of the second one.
"""

from passtexts.living import Living, first_signs, is_live
from passtexts.paths import pairs_into
from passtexts.rows import ascending, names_in, signs_in


def heights_of(one, other):
    """The dict of the heights of all nodes, None if for some text only one writes, or the lengths are unlike."""
    into = pairs_into(one, other)
    if not end_together(one, other, into):
        return None
    heights = heights_at_ends(one, other, into)
    steps = JointSteps(one, other)
    waiting = list(heights)
    while waiting:
        node = waiting.pop()
        if not begins_even(one, other, node, heights[node]):
            return None
        for before, letter in into[(node[0], node[2])]:
            ahead, more = steps.ahead(before, letter, node)
            if ahead not in heights:
                heights[ahead] = heights[node] + more
                waiting.append(ahead)
            elif heights[ahead] != heights[node] + more:
                return None
    return {node: heights[node] for node in sorted(heights)}


def are_heights(one, other, heights):
    """Whether these are heights as described, and both programs write for the same texts."""
    into = pairs_into(one, other)
    if not end_together(one, other, into):
        return False
    ends = heights_at_ends(one, other, into)
    if not all([node in heights and heights[node] == ends[node] for node in ends]):
        return False
    steps = JointSteps(one, other)
    lives = ({}, {})
    for node in heights:
        if not is_node(one, other, into, node, lives) or not begins_even(one, other, node, heights[node]):
            return False
        for before, letter in into[(node[0], node[2])]:
            ahead, more = steps.ahead(before, letter, node)
            if ahead not in heights or heights[ahead] != heights[node] + more:
                return False
    return True


class JointSteps:
    """The nodes ahead of the steps of two programs that read the same letter."""

    def __init__(self, one, other):
        self.first = Living(one)
        self.second = Living(other)

    def ahead(self, before, letter, node):
        """The node ahead of a node, and by how many signs more the first program puts in with the letter."""
        live, many = self.first.ahead(before[0], letter, node[1])
        other_live, other_many = self.second.ahead(before[1], letter, node[3])
        return (before[0], live, before[1], other_live), many - other_many


def end_together(one, other, into):
    """Whether of each of these pairs of states both have ends, or none."""
    return all([(pair[0] in one.ends) == (pair[1] in other.ends) for pair in into])


def heights_at_ends(one, other, into):
    """The dict of the heights of the nodes of the pairs of states that both have ends."""
    heights = {}
    for state, other_state in into:
        if state in one.ends and other_state in other.ends:
            row, other_row = one.ends[state], other.ends[other_state]
            node = (state, ascending(names_in(row)), other_state, ascending(names_in(other_row)))
            heights[node] = signs_in(row) - signs_in(other_row)
    return heights


def begins_even(one, other, node, height):
    """Whether a node, if it is one of the first states, has the height that makes up for the first contents."""
    if (node[0], node[2]) != (0, 0):
        return True
    return height + first_signs(one, node[1]) - first_signs(other, node[3]) == 0


def is_node(one, other, into, node, lives):
    """Whether it is a node of states to which some text leads both; lives keeps what is found of live registers."""
    if not isinstance(node, tuple) or len(node) != 4 or (node[0], node[2]) not in into:
        return False
    return kept_live(one, node[1], lives[0]) and kept_live(other, node[3], lives[1])


def kept_live(program, live, kept):
    """Whether it is a tuple of live registers, kept once it is found."""
    if live not in kept:
        kept[live] = is_live(program, live)
    return kept[live]
