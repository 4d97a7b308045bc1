"""The greatest sums over a web (see webs): of what counts in all that a node comes of."""

NO_SUM = -1


def sources_of(edges):
    """List, for each node, the nodes of which it comes."""
    return [[node for _, _, sources in told for _, node in sources] for told in edges]


def components(links):
    """List the components of nodes that lead to each other by links, those led to first."""
    found, stack, frames = [], [], []
    low, number, placed, depth = {}, {}, {}, {}
    for root in range(len(links)):
        if root in number:
            continue
        frames.append([root, 0])
        while frames:
            node, at = frames[-1]
            if at == 0:
                number[node] = low[node] = len(number)
                depth[node] = len(stack)
                stack.append(node)
            if at < len(links[node]):
                frames[-1][1] += 1
                other = links[node][at]
                if other not in number:
                    frames.append([other, 0])
                elif other not in placed:
                    low[node] = min(low[node], number[other])
                continue
            frames.pop()
            if frames:
                above = frames[-1][0]
                low[above] = min(low[above], low[node])
            if low[node] == number[node]:
                found.append(stack[depth[node]:])
                for member in found[-1]:
                    placed[member] = True
                del stack[depth[node]:]
    return found


def total_of(edge, sums):
    """Add up what counts by an edge: None if there is no bound."""
    total = edge[0]
    for _, node in edge[2]:
        if sums[node] is None:
            return None
        total += sums[node]
    return total


def sum_of_component(edges, members, sums):
    """Give the greatest sum for the nodes of a component: None if there is none."""
    inside = {node: True for node in members}
    inner, best = [], 0
    for node in members:
        for edge in edges[node]:
            if [other for _, other in edge[2] if other in inside]:
                inner.append(edge)
                continue
            total = total_of(edge, sums)
            if total is None:
                return None
            best = max(best, total)
    for gain, _, sources in inner:
        beside = [other for _, other in sources if other not in inside]
        many = len(sources) - len(beside)
        if gain > 0 or [other for other in beside if sums[other] != 0]:
            return None
        if many > 1 and best > 0:
            return None
    return best


def greatest_sums(edges):
    """Give, for each node, the greatest sum, None where sums grow beyond each number."""
    sums = [0 for _ in edges]
    for members in components(sources_of(edges)):
        best = sum_of_component(edges, members, sums)
        for node in members:
            sums[node] = best
    return sums


def put_together(edge, trees):
    """Give (rule, trees) as it comes by an edge of those of its sources."""
    base = edge[1]
    for place, node in edge[2]:
        if place is None:
            base = trees[node]
        else:
            base = base[0], base[1][:place] + (trees[node],) + base[1][place + 1:]
    return base


def trees_by_sum(edges, enough):
    """Give lists of a sum for each node, and of a TREE that has it: as great as can be, or enough."""
    sums, trees = [NO_SUM for _ in edges], [None for _ in edges]
    order = [node for members in components(sources_of(edges)) for node in members]
    changed = True
    while changed:
        changed = False
        for node in order:
            for edge in edges[node]:
                parts = [sums[other] for _, other in edge[2]]
                total = min(enough, edge[0] + sum(parts))
                if NO_SUM not in parts and total > sums[node]:
                    sums[node] = total
                    trees[node] = put_together(edge, trees)
                    changed = True
    return sums, trees
