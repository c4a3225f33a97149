"""Rings of edges with sums: parts of a graph, and whether rings in them lessen or raise sums."""

from math import gcd


def turned_about(edges):
    """The edges back: for each node the list of the pairs of a node ahead of it and the sum of the edge."""
    back = [[] for _ in edges]
    for node, told in enumerate(edges):
        for following, many in told:
            back[following].append((node, many))
    return back


def finished(edges):
    """The list of all nodes, each behind those that are met from it, but for ones that were met already."""
    done = []
    met = set()
    for root in range(len(edges)):
        work = [(root, 0)]
        while work:
            node, at = work.pop()
            if at == 0 and node in met:
                continue
            met.add(node)
            if at < len(edges[node]):
                work.append((node, at + 1))
                work.append((edges[node][at][0], 0))
            else:
                done.append(node)
    return done


def parts_of(edges, back):
    """The list of the parts, lists of nodes that lead to one another, each ahead of those that it leads to."""
    parts = []
    met = set()
    for root in reversed(finished(edges)):
        if root in met:
            continue
        met.add(root)
        part = [root]
        at = 0
        while at < len(part):
            for node, _ in back[part[at]]:
                if node not in met:
                    met.add(node)
                    part.append(node)
            at = at + 1
        parts.append(part)
    return parts


def inner_edges(part, edges):
    """The dict of the nodes of a part, each with the list of its edges within the part."""
    inside = {node: True for node in part}
    return {node: [edge for edge in edges[node] if edge[0] in inside] for node in part}


def ring_sums(part, edges):
    """The greatest common divisor of the sums of the rings of a part, and whether some lessen, and some raise sums."""
    inner = inner_edges(part, edges)
    slopes = slopes_of(part[0], inner)
    divisor = 0
    for slope in slopes:
        divisor = gcd(divisor, slope)
    if divisor == 0:
        return 0, False, False
    # each edge is on a ring, so slopes of one direction alone make rings of this direction alone
    if min(slopes) >= 0:
        return divisor, False, True
    if max(slopes) <= 0:
        return divisor, True, False
    return divisor, has_falling(inner, 1), has_falling(inner, -1)


def slopes_of(root, inner):
    """The list of the sums of all edges, each measured by the sums of some walks from the root to its two nodes."""
    heights = {root: 0}
    waiting = [root]
    while waiting:
        node = waiting.pop()
        for following, many in inner[node]:
            if following not in heights:
                heights[following] = heights[node] + many
                waiting.append(following)
    return [heights[node] + many - heights[following] for node in inner for following, many in inner[node]]


def has_falling(inner, turn):
    """Whether some ring has a sum below 0, of the sums times turn."""
    best = {node: 0 for node in inner}
    came = {}
    front = list(inner)
    work = 0
    while front:
        lowered = {}
        for node in front:
            for following, many in inner[node]:
                if best[node] + turn * many < best[following]:
                    best[following] = best[node] + turn * many
                    came[following] = node
                    lowered[following] = True
        work = work + len(front)
        if work >= len(inner):
            # without such a ring the nodes from which others were lowered never come to a ring
            if has_ring(came):
                return True
            work = 0
        front = list(lowered)
    return False


def has_ring(came):
    """Whether one comes to a ring, going from nodes to the ones that are told for them."""
    return node_on_ring(came) is not None


def node_on_ring(came):
    """A node on a ring to which one comes, going from nodes to the ones that are told for them, None without one."""
    passed = {}
    for root in came:
        node = root
        while node in came and node not in passed:
            passed[node] = root
            node = came[node]
        if node in came and passed[node] == root:
            return node
    return None
