"""Stores: the nodes of many diagrams of the same fields, each kept but once: one number tells a set of items."""

from wishshelves.diagrams import TRUTHS, crossed, deepest_first, goal_at, merged, numbered, plain_rows


class Store:
    """Nodes as in diagrams: rows are the rows of all nodes that were made, known is what was worked out of them."""

    def __init__(self, fields):
        self.fields = fields
        self.rows = list(plain_rows(len(fields.names)))
        self.numbers = {}
        self.known = {}

    def node(self, field, edges):
        """Return the node that asks a field and goes on by these edges, which may lead to the same nodes."""
        row = (field, merged(edges))
        if len(row[1]) == 1:
            return row[1][0][1]
        if row not in self.numbers:
            self.numbers[row] = len(self.rows)
            self.rows.append(row)
        return self.numbers[row]

    def taken_in(self, diagram):
        """Return the node of a diagram."""
        root, rows = diagram
        nodes = list(range(len(rows)))
        for number in deepest_first(rows):
            field, edges = rows[number]
            nodes[number] = self.node(field, [(first, nodes[goal]) for first, goal in edges])
        return nodes[root]

    def diagram_of(self, node):
        """Return the diagram of a node."""
        return numbered(self.rows, node)

    def combined(self, word, one, other):
        """Return the node that a word of TRUTHS makes of two nodes."""
        truths = TRUTHS[word]
        node = -1
        if one < 2 and other < 2:
            node = truths[2 * one + other]
        elif one < 2:
            node = leading(truths[2 * one], truths[2 * one + 1], other)
        elif other < 2:
            node = leading(truths[other], truths[2 + other], one)
        elif one == other:
            node = leading(truths[0], truths[3], one)
        if node >= 0:
            return node
        key = (word, one, other)
        if key not in self.known:
            field, met = crossed(one, self.rows[one], other, self.rows[other])
            edges = [(first, self.combined(word, goal, also)) for first, goal, also in met]
            self.known[key] = self.node(field, edges)
        return self.known[key]

    def laid_over(self, node, changes):
        """Return what comes of the items of a node if changes, pairs (field, place), are laid over them."""
        if node == 0 or changes == ():
            return node
        key = ("over", node, changes)
        if key not in self.known:
            self.known[key] = self.laid_anew(node, changes)
        return self.known[key]

    def laid_anew(self, node, changes):
        """Work out laid_over."""
        field, edges = self.rows[node]
        changed, place = changes[0]
        if field < changed:
            return self.node(field, [(first, self.laid_over(goal, changes)) for first, goal in edges])
        if field == changed:
            # Whatever value the items had, all have the same one now.
            node = 0
            for first, goal in edges:
                node = self.combined("or", node, goal)
        return self.only_at(changed, place, self.laid_over(node, changes[1:]))

    def only_at(self, field, place, node):
        """Return those items of a node, which does not ask this field, that have its value at this place."""
        edges = [(at, node if at == place else 0) for at in range(self.fields.sizes[field])]
        return self.node(field, edges)

    def laid_under(self, node, changes):
        """Return the items that come into a node if changes, pairs (field, place), are laid over them."""
        if node < 2 or changes == ():
            return node
        key = ("under", node, changes)
        if key not in self.known:
            self.known[key] = self.found_under(node, changes)
        return self.known[key]

    def found_under(self, node, changes):
        """Work out laid_under."""
        field, edges = self.rows[node]
        changed, place = changes[0]
        if field < changed:
            return self.node(field, [(first, self.laid_under(goal, changes)) for first, goal in edges])
        if field == changed:
            node = goal_at(edges, place)
        return self.laid_under(node, changes[1:])


def leading(low, high, node):
    """Return the node that is low where a node is 0 and high where it is 1; -1 if that would have to be made."""
    if low == high:
        return low
    return node if low == 0 else -1
