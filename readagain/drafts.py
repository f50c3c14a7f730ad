"""Drafts of machines: nodes at which marks may follow, and what is written between them.

A draft is a pair (text, nodes): the text is written first, then node 0 is come to. A node is a
list of edges (mark, what is written behind it, number of the node behind that), or None for the
end of a score. So the places ahead of signs need not be told apart until a draft is finished.
"""

END = ("end",)
START = ("start",)


def explored(text, first, edges_of):
    """The draft of all keys that are come to from the first one; edges lead from key to key."""
    numbers = {first: 0}
    keys = [first]
    nodes = []
    while len(nodes) < len(keys):
        key = keys[len(nodes)]
        if key == END:
            nodes.append(None)
            continue
        edges = []
        for mark, written, behind in edges_of(key):
            if behind not in numbers:
                numbers[behind] = len(keys)
                keys.append(behind)
            edges.append((mark, written, numbers[behind]))
        nodes.append(edges)
    return (text, nodes)


def reduced(draft):
    """The same draft without nodes from which no end is come to, and no two nodes of one kind."""
    text, nodes = draft
    live = live_nodes(nodes)
    kept = []
    for node, edges in enumerate(nodes):
        if edges is None or node not in live:
            kept.append(edges)
        else:
            kept.append(sorted([edge for edge in edges if edge[2] in live]))
    classes = Partition(kept, live).classes
    return renumbered(text, kept, classes)


def sources_of(nodes):
    """For each node the list of the nodes with an edge to it."""
    sources = [[] for _ in nodes]
    for node, edges in enumerate(nodes):
        for edge in edges or []:
            sources[edge[2]].append(node)
    return sources


def live_nodes(nodes):
    """The dict of the nodes from which an end is come to."""
    sources = sources_of(nodes)
    live = {end: True for end, edges in enumerate(nodes) if edges is None}
    waiting = list(live)
    while waiting:
        node = waiting.pop()
        for source in sources[node]:
            if source not in live:
                live[source] = True
                waiting.append(source)
    return live


def renumbered(text, nodes, classes):
    """The draft with one node of each class, numbered as they are reached."""
    numbers = {classes[0]: 0}
    found = [0]
    kept = []
    while len(kept) < len(found):
        edges = nodes[found[len(kept)]]
        if edges is None:
            kept.append(None)
            continue
        row = []
        for mark, written, behind in edges:
            if classes[behind] not in numbers:
                numbers[classes[behind]] = len(found)
                found.append(behind)
            row.append((mark, written, numbers[classes[behind]]))
        kept.append(row)
    return (text, kept)


class Partition:
    """Classes of nodes, parted until the nodes of each class have edges to the same classes.

    Of the pieces of a class the greatest one keeps the number: so a node changes its class a few
    times only, and only nodes with an edge to a changed one are looked at again.
    """

    def __init__(self, nodes, live):
        self.nodes = nodes
        self.sources = sources_of(nodes)
        self.classes = {}
        self.members = []
        shapes = {}
        for node in live:
            edges = nodes[node]
            shape = None if edges is None else tuple([(edge[0], edge[1]) for edge in edges])
            self.put_at(node, shapes.setdefault(shape, len(shapes)))
        changed = list(live)
        while changed:
            changed = self.part(changed)

    def put_at(self, node, number):
        """Put a node into the class with this number, perhaps the next new one."""
        if number == len(self.members):
            self.members.append([])
        self.members[number].append(node)
        self.classes[node] = number

    def kind_of(self, node):
        """The classes to which the edges of a node lead."""
        return tuple([self.classes[edge[2]] for edge in self.nodes[node] or []])

    def part(self, nodes):
        """Look at nodes again; the nodes that are to be looked at next."""
        pieces = {}
        for node in nodes:
            by_kind = pieces.setdefault(self.classes[node], {})
            by_kind.setdefault(self.kind_of(node), []).append(node)
        touched = {}
        for number, by_kind in pieces.items():
            for moved in self.pieces_to_move(number, list(by_kind.values())):
                for node in moved:
                    self.classes[node] = len(self.members)
                    for source in self.sources[node]:
                        touched[source] = True
                self.members.append(moved)
        return [again for again in touched if again in self.classes]

    def pieces_to_move(self, number, pieces):
        """Leave the greatest piece in the class, and tell the others."""
        looked_at = {}
        for piece in pieces:
            for node in piece:
                looked_at[node] = True
        rest = [member for member in self.members[number] if member not in looked_at]
        if rest:
            pieces = pieces + [rest]
        greatest = max(pieces, key=len)
        self.members[number] = greatest
        return [moved for moved in pieces if moved[0] != greatest[0]]


def count_places(draft):
    """How many places the machine of a reduced draft has."""
    text, nodes = draft
    tails = {}
    for edges in nodes + [[("", text, 0)]]:
        for _, written, behind in edges or []:
            for at in range(len(written)):
                tails[(written[at:], behind)] = True
    return len(nodes) + len(tails)


def count_far_nodes(draft, many):
    """How many nodes of a draft are come to behind so many signs at least."""
    text, nodes = draft
    first = (0, min(many, len(text)))
    seen = {first: True}
    waiting = [first]
    while waiting:
        node, signs = waiting.pop()
        for _, written, behind in nodes[node] or []:
            key = (behind, min(many, signs + len(written)))
            if key not in seen:
                seen[key] = True
                waiting.append(key)
    return len([come for come in seen if come[1] == many])
