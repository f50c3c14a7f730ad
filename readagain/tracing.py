"""The places at which scores with a text may be, sign by sign.

A layer is the dict of all places to which items lead whose signs are the beginning of the text
with so many signs. A track is the list of the layers of a text, one more than it has signs.
"""

from readagain.pairing import items_behind


def first_layer(machine):
    """The layer ahead of all signs."""
    return layer_of(machine, [0])


def layer_of(machine, places):
    """The layer of some places: these, and all to which marks lead from them."""
    layer = {place: True for place in places}
    waiting = list(layer)
    while waiting:
        row = machine[waiting.pop()]
        if row[0] == "marks":
            for _, behind in row[1]:
                if behind not in layer:
                    layer[behind] = True
                    waiting.append(behind)
    return layer


def layer_behind(machine, layer, sign):
    """The layer behind one more sign; an empty one if no text goes on so."""
    rows = [machine[place] for place in layer]
    return layer_of(machine, [row[2] for row in rows if row[0] == "sign" and row[1] == sign])


def signs_behind(machine, layer):
    """The ascending text of the signs with which a text may go on."""
    rows = [machine[place] for place in layer]
    return "".join(sorted({row[1] for row in rows if row[0] == "sign"}))


def has_end(machine, layer):
    """Whether a score may be over."""
    return any(machine[place][0] == "end" for place in layer)


def extended(machine, layer, text):
    """The layers behind the signs of a text, up to the first sign with which no text goes on."""
    layers = []
    for sign in text:
        layer = layer_behind(machine, layer, sign)
        if not layer:
            return layers
        layers.append(layer)
    return layers


def rows_of(machine, track, text, most):
    """All scores with the text, ascending; None for endless many, and a number for more than most.

    The number is how many there are.
    """
    useful = useful_edges(machine, track, text)
    order = order_of_keys(useful)
    if order is None:
        return None
    counts = {}
    for key in order:
        counts[key] = sum([counts[behind] for _, behind in useful[key]]) if useful[key] else 1
    many = counts.get((0, 0), 0)
    return many if many > most else listed_rows(useful)


def useful_edges(machine, track, text):
    """The dict of the keys (signs behind, place) on ways to an end behind the whole text.

    To each key belongs the tuple of its edges (item, key behind); the end has none.
    """
    useful = {}
    for signs in reversed(range(len(track))):
        rows = {reached: machine[reached] for reached in track[signs]}
        waiting = []
        for place, row in rows.items():
            if row[0] == "end" and signs == len(text):
                useful[(signs, place)] = ()
                waiting.append(place)
            elif row[0] == "sign" and text[signs:signs + 1] == row[1] and (signs + 1, row[2]) in useful:
                useful[(signs, place)] = ((row[1], (signs + 1, row[2])),)
                waiting.append(place)
        for place in come_from(rows, waiting):
            useful[(signs, place)] = ()
        add_mark_edges(useful, rows, signs)
    return useful


def come_from(rows, places):
    """All places with marks from which marks lead to some places."""
    sources = {reached: [] for reached in rows}
    for place, row in rows.items():
        if row[0] == "marks":
            for _, behind in row[1]:
                sources[behind].append(place)
    found = {}
    waiting = list(places)
    while waiting:
        place = waiting.pop()
        for source in sources[place]:
            if source not in found:
                found[source] = True
                waiting.append(source)
    return found


def add_mark_edges(useful, rows, signs):
    """Put the edges by marks to the keys of a layer."""
    for place, row in rows.items():
        if row[0] == "marks" and (signs, place) in useful:
            edges = [(mark, (signs, behind)) for mark, behind in items_behind(row)]
            useful[(signs, place)] = tuple([edge for edge in edges if edge[1] in useful])


def order_of_keys(useful):
    """The keys in an order in which each stands behind those to which it leads; None if there is a ring."""
    sources = {reached: [] for reached in useful}
    left = {}
    for key, edges in useful.items():
        left[key] = len(edges)
        for _, behind in edges:
            sources[behind].append(key)
    order = [last for last in useful if left[last] == 0]
    at = 0
    while at < len(order):
        key = order[at]
        at += 1
        for source in sources[key]:
            left[source] -= 1
            if left[source] == 0:
                order.append(source)
    return order if len(order) == len(useful) else None


def listed_rows(useful):
    """All rows of items along the edges, ascending, from the beginning to an end."""
    rows = []
    items = []
    waiting = [(0, "", (0, 0))] if (0, 0) in useful else []
    while waiting:
        many, item, key = waiting.pop()
        del items[many:]
        items.append(item)
        if not useful[key]:
            rows.append(tuple(items[1:]))
        for edge in reversed(useful[key]):
            waiting.append((many + 1, edge[0], edge[1]))
    return rows
