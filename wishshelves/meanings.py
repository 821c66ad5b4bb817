"""What searches mean: the nodes, in a store, of the items of which they are true."""

from wishshelves.searches import ROW_WORDS, allows, asked_field


def node_of(store, search, shelves, known):
    """Return the node of a search that fits; known keeps the nodes of the shelves."""
    # The shelves first, each once: so the calls go no deeper than the searches by themselves.
    for name in search.shelves:
        if name not in known:
            known[name] = node_of(store, shelves[name], shelves, known)
    return node_among(store, search, known)


def node_among(store, search, known):
    """Return the node of a search, all shelves that it names being known."""
    word = search.parts[0]
    if word == "shelf":
        return known[search.parts[1]]
    if word == "not":
        return store.combined("without", 1, node_among(store, search.parts[1], known))
    if word not in ROW_WORDS:
        return condition_node(store, search.parts)
    nodes = [node_among(store, member, known) for member in search.parts[1:]]
    found = nodes[0]
    for node in nodes[1:]:
        found = store.combined(word, found, node)
    return found


def condition_node(store, condition):
    """Return the node of a condition that names no shelf."""
    if len(condition) == 1:
        return int(condition[0] == "everything")
    field = store.fields.names.index(asked_field(condition))
    edges = [(place, int(allows(condition, value))) for place, value in enumerate(store.fields.choices[field])]
    return store.node(field, edges)
