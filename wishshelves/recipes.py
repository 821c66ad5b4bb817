"""Recipes: one row of moves that serves for all items of a group, the moves being tried on each of them."""

from wishshelves.errors import TooMany
from wishshelves.steps import Steps, chosen
from wishshelves.ways import is_group_of

MOST_GROUPS = 100


def recipe(shelves, a, b, *, only=None):
    """Return ('recipe', names) for a shortest row of moves that brings all of a into b, ('none', groups) without."""
    steps = Steps(shelves, chosen(shelves, only))
    start, goal = steps.node(a), steps.node(b)
    rows = {start: ()}
    level = [start]
    while level:
        for node in level:
            if steps.without(node, goal) == 0:
                return ("recipe", rows[node])
        if len(rows) > MOST_GROUPS:
            raise TooMany(MOST_GROUPS)
        level = gone_on_from(steps, level, rows)
    return ("none", tuple([steps.group(node) for node in rows]))


def shows_recipe(shelves, a, b, value, *, only=None):
    """Tell whether a value is such an answer as recipe may give, right by itself."""
    steps = Steps(shelves, chosen(shelves, only))
    start, goal = steps.node(a), steps.node(b)
    if not isinstance(value, tuple) or len(value) != 2 or not isinstance(value[1], tuple):
        return False
    if value[0] == "recipe":
        return brings_all(steps, start, goal, value[1])
    return value[0] == "none" and keeps_out(steps, start, goal, value[1])


def gone_on_from(steps, level, rows):
    """Return the nodes that come of a level by one more move and are new; rows keeps the least names of all."""
    found = []
    # The rows of a level ascend: the first one by which a node comes is the least.
    for node in level:
        for name in steps.names:
            other = steps.tried_on(name, node)
            if other not in rows:
                rows[other] = rows[node] + (name,)
                found.append(other)
    return found


def brings_all(steps, start, goal, names):
    """Tell whether all of start is in the goal behind the moves of these names."""
    node = start
    for name in names:
        if name not in steps.names:
            return False
        node = steps.tried_on(name, node)
    return steps.without(node, goal) == 0


def keeps_out(steps, start, goal, groups):
    """Tell whether groups show that there is no recipe: none is within the goal, and there is always one of them."""
    if not all([is_group_of(one, steps.fields) for one in groups]):
        return False
    nodes = {steps.node(one): True for one in groups}
    if any([steps.without(node, goal) == 0 for node in nodes]) or not has_within(steps, nodes, start):
        return False
    return all([has_within(steps, nodes, steps.tried_on(name, node)) for node in nodes for name in steps.names])


def has_within(steps, nodes, node):
    """Tell whether one of these nodes is within another node."""
    return node in nodes or any([steps.without(one, node) == 0 for one in nodes])
