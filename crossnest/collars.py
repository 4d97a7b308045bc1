"""Ways through a web (see webs) from a node to one of which it comes, and what TREES they make.

A *way* is a list of pairs (edge, place), one below the other. A *collar* is a way from a node to
itself.
"""


def links_of(steps):
    """Give a dict with, for each node, the steps (node, edge, place) that begin there."""
    links = {}
    for step in steps:
        links.setdefault(step[0], []).append(step)
    return links


def shortest_way(links, starts, goal):
    """Give a pair (start, way): the shortest way by links from one of these nodes to another one;
    None if there is none."""
    come = {start: None for start in starts}
    row, at = list(starts), 0
    while at < len(row) and goal not in come:
        for step in links.get(row[at], []):
            other = below(step[1], step[2])
            if other not in come:
                come[other] = step
                row.append(other)
        at += 1
    if goal not in come:
        return None
    way, node = [], goal
    while come[node] is not None:
        node, edge, place = come[node]
        way.append((edge, place))
    return node, way[::-1]


def way_to(edges, starts, goal, inside):
    """Give the shortest way, as shortest_way does, through nodes that are inside."""
    return shortest_way(links_of(steps_in(edges, inside)), starts, goal)


def steps_in(edges, inside):
    """List the steps (node, edge, place) between nodes that are inside: the keys of a dict."""
    return [
        (node, edge, place) for node in inside for edge in edges[node]
        for place, other in edge[2] if other in inside
    ]


def below(edge, place):
    """Give the source of an edge at this place."""
    return [node for where, node in edge[2] if where == place][0]


def path_of(way):
    """Give the PATH that a way goes."""
    return tuple([place for _, place in way])


def wrapped(way, tree, trees):
    """Give the TREE of a way with this TREE at its end; trees has one for each node beside."""
    for edge, place in reversed(way):
        rule, parts = edge[1]
        parts = list(parts)
        for where, node in edge[2]:
            parts[where] = tree if where == place else trees[node]
        tree = (rule, tuple(parts))
    return tree


def gain_beside(edge, place, sums):
    """Add up what counts by an edge but for the source at this place."""
    return edge[0] + sum([sums[node] for where, node in edge[2] if where != place])


def gain_of(way, sums):
    """Add up what counts by a way, what comes of its end left out."""
    return sum([gain_beside(edge, place, sums) for edge, place in way])


def collar_by(edges, step, inside):
    """Give the collar of a node that begins with a step (node, edge, place)."""
    node, edge, place = step
    return [(edge, place)] + way_to(edges, [below(edge, place)], node, inside)[1]


def growing_step(edges, inside, sums):
    """Give a step of a component by which something counts, None if there is none."""
    for step in steps_in(edges, inside):
        if gain_beside(step[1], step[2], sums) > 0:
            return step
    return None
