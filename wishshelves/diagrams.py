"""Diagrams: sets of items, told by questions that are asked field by field.

A diagram is (root, rows). A node is 0 (no item), 1 (each item) or the number of a row from 2 on; the first two rows
stand for 0 and 1 and ask a field behind the last one, so that each node has a row. A row is (field, edges): edges are
pairs (first, goal), goal being the node for the values from place first on, up to the next pair. Rows lead to rows of
later fields alone, neighbouring edges lead to different nodes, and no two rows are alike: so there is just one diagram
for a set of items, its rows being numbered as they are first met.

The functions of this file change nothing but what they made themselves: the operators of groups may call no others.
"""

TRUTHS = {"and": (0, 0, 0, 1), "or": (0, 1, 1, 1), "either": (0, 1, 1, 0), "without": (0, 0, 1, 0)}
BEHIND_ALL = 1000


def plain_rows(depth):
    """Return the rows of the nodes 0 and 1 for so many fields."""
    return ((depth, ()), (depth, ()))


def merged(edges):
    """Return edges of which no two neighbours lead to the same node."""
    found = [edges[0]]
    for edge in edges:
        if edge[1] != found[-1][1]:
            found.append(edge)
    return tuple(found)


def goal_at(edges, place):
    """Return the node to which edges lead from a place."""
    found = edges[0][1]
    for first, goal in edges:
        if first > place:
            break
        found = goal
    return found


def stretches(edges, size):
    """Return (first, end, goal) for each edge of a field with so many values."""
    ends = [first for first, goal in edges[1:]] + [size]
    return [(first, end, goal) for (first, goal), end in zip(edges, ends)]


def deepest_first(rows):
    """Return the numbers of all rows but the first two, those that ask later fields ahead."""
    numbers = []
    for field in reversed(range(rows[0][0])):
        numbers.extend([number for number in range(2, len(rows)) if rows[number][0] == field])
    return numbers


def numbered(rows, root):
    """Return the diagram from this root on, its rows numbered as they are first met."""
    met = [0, 1]
    numbers = {0: 0, 1: 1}
    if root > 1:
        met.append(root)
        numbers[root] = 2
    at = 2
    while at < len(met):
        field, edges = rows[met[at]]
        for first, goal in edges:
            if goal not in numbers:
                numbers[goal] = len(met)
                met.append(goal)
        at += 1
    found = [(rows[node][0], tuple([(first, numbers[goal]) for first, goal in rows[node][1]])) for node in met]
    return (numbers[root], tuple(found))


def reduced(rows, root):
    """Return the diagram of rows of which some may be needless, or alike."""
    kept = list(rows)
    nodes = list(range(len(rows)))
    known = {}
    for number in deepest_first(rows):
        field, edges = rows[number]
        row = (field, merged([(first, nodes[goal]) for first, goal in edges]))
        if len(row[1]) == 1:
            nodes[number] = row[1][0][1]
        elif row in known:
            nodes[number] = known[row]
        else:
            known[row] = number
            kept[number] = row
    return numbered(kept, nodes[root])


def overlaid(edges, others):
    """Return (first, goal, other goal) for each stretch in which neither edges nor others change."""
    found = []
    place = at = also = 0
    while place < BEHIND_ALL:
        found.append((place, edges[at][1], others[also][1]))
        step = edges[at + 1][0] if at + 1 < len(edges) else BEHIND_ALL
        other_step = others[also + 1][0] if also + 1 < len(others) else BEHIND_ALL
        place = step if step < other_step else other_step
        if step == place:
            at += 1
        if other_step == place:
            also += 1
    return found


def crossed(one, row, other, other_row):
    """Return the first field that two nodes of these rows ask, and (first, goal, other goal) for its stretches."""
    field, edges = row
    other_field, other_edges = other_row
    if field < other_field:
        return field, [(first, goal, other) for first, goal in edges]
    if other_field < field:
        return other_field, [(first, one, goal) for first, goal in other_edges]
    return field, overlaid(edges, other_edges)


def settled(truths, one, other):
    """Return the node 0 or 1 if two nodes surely come to it, -1 otherwise."""
    if one < 2 and (other < 2 or truths[2 * one] == truths[2 * one + 1]):
        return truths[2 * one + (other if other < 2 else 0)]
    if other < 2 and truths[other] == truths[2 + other]:
        return truths[other]
    return -1


def joined(one, other, word):
    """Return the diagram that a word of TRUTHS makes of two diagrams of the same fields."""
    truths = TRUTHS[word]
    rows = [one[1][0], one[1][1]]
    pairs = [(one[0], other[0])]
    numbers = {pairs[0]: 2}
    root = settled(truths, one[0], other[0])
    if root >= 0:
        return (root, tuple(rows))
    at = 0
    while at < len(pairs):
        here, there = pairs[at]
        field, met = crossed(here, one[1][here], there, other[1][there])
        edges = []
        for first, goal, also in met:
            node = settled(truths, goal, also)
            if node < 0 and (goal, also) not in numbers:
                numbers[(goal, also)] = len(pairs) + 2
                pairs.append((goal, also))
            edges.append((first, numbers[(goal, also)] if node < 0 else node))
        rows.append((field, edges))
        at += 1
    return reduced(rows, 2)


def turned(node):
    """Return 1 for 0, 0 for 1, and all other nodes as they are."""
    return 1 - node if node < 2 else node


def inverted(diagram):
    """Return the diagram of all other items."""
    root, rows = diagram
    found = [(field, tuple([(first, turned(goal)) for first, goal in edges])) for field, edges in rows]
    return (turned(root), tuple(found))


def holds(diagram, places):
    """Tell whether the item with these places is one of a diagram's items."""
    node, rows = diagram
    while node > 1:
        field, edges = rows[node]
        node = goal_at(edges, places[field])
    return node == 1


def many_of(diagram, sizes):
    """Return how many items a diagram has, sizes being how many values each field has."""
    root, rows = diagram
    counts = [0] * len(rows)
    counts[1] = 1
    for size in sizes:
        counts[1] = counts[1] * size
    for number in deepest_first(rows):
        field, edges = rows[number]
        # What an edge leads to does not ask this field: of its items each value has the same share.
        shares = [(end - first) * counts[goal] for first, end, goal in stretches(edges, sizes[field])]
        counts[number] = sum(shares) // sizes[field]
    return counts[root]


def least_of(diagram):
    """Return the places of the least item, None if there is none."""
    node, rows = diagram
    if node == 0:
        return None
    places = [0] * rows[0][0]
    while node > 1:
        field, edges = rows[node]
        # Neighbours differ: if the first edge leads to no item, the second one leads to some.
        first, node = edges[0] if edges[0][1] != 0 else edges[1]
        places[field] = first
    return tuple(places)


def asking(rows, field):
    """Return for each node whether it is a row that asks this field, or one that leads to such a row."""
    found = [False] * len(rows)
    for number in deepest_first(rows):
        leads = [found[goal] for first, goal in rows[number][1]]
        found[number] = rows[number][0] == field or any(leads)
    return found


def least_pair(diagram, field):
    """Return the places of the least two items unlike in this field alone, just one of them in the diagram."""
    node, rows = diagram
    leads = asking(rows, field)
    if not leads[node]:
        return None
    places = [0] * rows[0][0]
    while rows[node][0] != field:
        asked, edges = rows[node]
        first, node = [edge for edge in edges if leads[edge[1]]][0]
        places[asked] = first
    edges = rows[node][1]
    best = None
    place = 0
    for first, goal in edges[1:]:
        # None if this edge leads to the same as the first one.
        apart = least_of(joined((edges[0][1], rows), (goal, rows), "either"))
        if apart is not None and (best is None or apart < best):
            best = apart
            place = first
    ahead = tuple(places[:field])
    return ahead + best[field:], ahead + (place,) + best[field + 1:]
