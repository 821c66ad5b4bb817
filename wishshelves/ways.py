"""Ways: which items come where by runs of moves, told for all items at once."""

from wishshelves.diagrams import holds
from wishshelves.groups import Group
from wishshelves.steps import Steps, chosen


def reach(shelves, group, *, only=None):
    """Return the group of all items that come of items of a group by runs."""
    steps = Steps(shelves, chosen(shelves, only))
    return steps.group(reached(steps, steps.node(group)))


def back(shelves, group, *, only=None):
    """Return the group of all items of which some run leads into a group."""
    steps = Steps(shelves, chosen(shelves, only))
    return steps.group(led_from(steps, steps.node(group)))


def lasting(shelves, group, *, only=None):
    """Return the group of those items of a group out of which no run leads."""
    steps = Steps(shelves, chosen(shelves, only))
    node = steps.node(group)
    return steps.group(steps.without(node, led_from(steps, steps.without(1, node))))


def can(shelves, a, b, *, only=None):
    """Return ('run', item, names) for a shortest run from an item of a into b, ('never', group) if there is none."""
    steps = Steps(shelves, chosen(shelves, only))
    start, goal = steps.node(a), steps.node(b)
    layers = layers_after(steps, start, goal)
    if layers[-1] == 0:
        return ("never", steps.group(all_of(steps, layers)))
    names = least_names(steps, layers, goal)
    node = goal
    for name in reversed(list(names)):
        node = steps.before(name, node)
    return ("run", steps.group(steps.both(start, node)).least, tuple(names))


def shows_can(shelves, a, b, value, *, only=None):
    """Tell whether a value is such an answer as can may give, right by itself."""
    steps = Steps(shelves, chosen(shelves, only))
    start, goal = steps.node(a), steps.node(b)
    if not isinstance(value, tuple):
        return False
    if len(value) == 2 and value[0] == "never":
        return keeps_apart(steps, start, goal, value[1])
    if len(value) == 3 and value[0] == "run" and value[1] in a:
        return leads_into(steps, value[1].places, value[2], b)
    return False


def all_can(shelves, a, b, *, only=None):
    """Return ('all', groups) if each item of a has a run into b, ('not', item, group) if there is one without."""
    steps = Steps(shelves, chosen(shelves, only))
    start, goal = steps.node(a), steps.node(b)
    layers = layers_before(steps, start, goal)
    lost = steps.without(start, all_of(steps, layers))
    if lost == 0:
        return ("all", tuple([steps.group(layer) for layer in layers]))
    item = steps.group(lost).least
    return ("not", item, steps.group(reached(steps, steps.node_at(item.places))))


def shows_all_can(shelves, a, b, value, *, only=None):
    """Tell whether a value is such an answer as all_can may give, right by itself."""
    steps = Steps(shelves, chosen(shelves, only))
    start, goal = steps.node(a), steps.node(b)
    if not isinstance(value, tuple):
        return False
    if len(value) == 2 and value[0] == "all":
        return leads_all(steps, start, goal, value[1])
    if len(value) == 3 and value[0] == "not" and value[1] in a:
        return keeps_apart(steps, steps.node_at(value[1].places), goal, value[2])
    return False


def layers_after(steps, start, goal):
    """Return start, then again and again what comes of it by one more move, up to what meets the goal, or is empty."""
    layers = [start]
    met = start
    while layers[-1] != 0 and steps.both(layers[-1], goal) == 0:
        layers.append(steps.without(steps.all_after(layers[-1]), met))
        met = steps.either(met, layers[-1])
    return layers


def layers_before(steps, start, goal):
    """Return goal, then again and again what comes into it by one more move, until start is met, or nothing is left."""
    layers = [goal]
    met = goal
    while layers[-1] != 0 and steps.without(start, met) != 0:
        layers.append(steps.without(steps.all_before(layers[-1]), met))
        met = steps.either(met, layers[-1])
    return layers


def all_of(steps, nodes):
    """Return what is in one of these nodes at least."""
    found = 0
    for node in nodes:
        found = steps.either(found, node)
    return found


def reached(steps, start):
    """Return the node of all that comes of a node by runs."""
    return all_of(steps, layers_after(steps, start, 0))


def led_from(steps, goal):
    """Return the node of all of which some run leads into a node."""
    return all_of(steps, layers_before(steps, 1, goal))


def least_names(steps, layers, goal):
    """Return the least names of the runs from the first layer into the goal, which the last layer meets."""
    ends = [steps.both(layers[-1], goal)]
    for layer in reversed(list(layers[:-1])):
        ends.append(steps.both(layer, steps.all_before(ends[-1])))
    node = ends[-1]
    names = []
    for end in reversed(list(ends[:-1])):
        # Of each item of an end some run leads on to the goal: the first name that leads there will do.
        names.append([name for name in steps.names if steps.both(steps.after(name, node), end) != 0][0])
        node = steps.both(steps.after(names[-1], node), end)
    return names


def is_group_of(value, fields):
    """Tell whether a value is a group of these fields."""
    return isinstance(value, Group) and value.fields == fields


def keeps_apart(steps, start, goal, value):
    """Tell whether a value is a group with all of start and none of goal out of which no move leads."""
    if not is_group_of(value, steps.fields):
        return False
    node = steps.node(value)
    return steps.without(start, node) == 0 and steps.both(node, goal) == 0 and steps.without(
        steps.all_after(node), node) == 0


def leads_into(steps, places, names, group):
    """Tell whether names are those of a run from the item with these places into a group."""
    if not isinstance(names, tuple):
        return False
    for name in names:
        places = steps.places_behind(name, places) if name in steps.names else None
        if places is None:
            return False
    return holds(group.diagram, places)


def leads_all(steps, start, goal, value):
    """Tell whether a value is groups, the first within the goal, each other one led into those ahead, start in them."""
    if not isinstance(value, tuple) or len(value) == 0:
        return False
    if not all([is_group_of(one, steps.fields) for one in value]):
        return False
    met = goal
    for number, group in enumerate(value):
        node = steps.node(group)
        near = goal if number == 0 else steps.either(met, steps.all_before(met))
        if steps.without(node, near) != 0:
            return False
        met = node if number == 0 else steps.either(met, node)
    return steps.without(start, met) == 0
