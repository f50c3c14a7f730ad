"""The places at which scores with a text may be, sign by sign.

A layer is the dict of all places to which items lead whose signs are the beginning of the text
with so many signs. A track is the list of the layers of a text, one more than it has signs.
"""

from readagain.errors import BadText
from readagain.pairing import items_behind
from readagain.walks import ordered_keys


def first_layer(machine):
    """The layer ahead of all signs."""
    return layer_of(machine, [0])


def layer_of(machine, places):
    """The layer of some places: these, and all to which marks lead from them."""
    layer = {place: True for place in places}
    waiting = list(layer)
    while waiting:
        row = machine[waiting.pop()]
        if row[0] == "marks":
            for _, behind in row[1]:
                if behind not in layer:
                    layer[behind] = True
                    waiting.append(behind)
    return layer


def layer_behind(machine, layer, sign):
    """The layer behind one more sign; an empty one if no text goes on so."""
    rows = [machine[place] for place in layer]
    return layer_of(machine, [row[2] for row in rows if row[0] == "sign" and row[1] == sign])


def signs_behind(machine, layer):
    """The ascending text of the signs with which a text may go on."""
    rows = [machine[place] for place in layer]
    return "".join(sorted({row[1] for row in rows if row[0] == "sign"}))


def has_end(machine, layer):
    """Whether a score may be over."""
    return any(machine[place][0] == "end" for place in layer)


def extended(machine, layer, text):
    """The layers behind the signs of a text, up to the first sign with which no text goes on."""
    layers = []
    for sign in text:
        layer = layer_behind(machine, layer, sign)
        if not layer:
            return layers
        layers.append(layer)
    return layers


def track_of(machine, text):
    """The track of a text; BadText if no text that is written begins with it."""
    if not isinstance(text, str):
        raise BadText(0)
    layer = first_layer(machine)
    layers = extended(machine, layer, text)
    if len(layers) < len(text):
        raise BadText(len(layers))
    return [layer] + layers


def rows_of(machine, track, text, most):
    """All scores with the text, ascending; None for endless many, and a number for more than most.

    The number is how many there are.
    """
    ends = [place for place in track[-1] if machine[place][0] == "end"]
    return rows_along(useful_edges(machine, track, text, ends), most)


def rows_along(useful, most):
    """All rows of items along edges from (0, 0) to where nothing follows, as rows_of."""
    order = ordered_keys(useful)
    if len(order) < len(useful):
        return None
    counts = {}
    for key in order:
        counts[key] = sum([counts[behind] for behind, _ in useful[key]]) if useful[key] else 1
    many = counts.get((0, 0), 0)
    return many if many > most else listed_rows(useful)


def only_row(machine, text):
    """The score with a text that is known to be the text of one score."""
    return rows_of(machine, track_of(machine, text), text, 1)[0]


def useful_edges(machine, track, text, goals):
    """The dict of the keys (signs behind, place) on ways to the goals, places behind the whole text.

    To each key belongs the tuple of its edges (key behind, item).
    """
    useful = {}
    for signs in reversed(range(len(track))):
        rows = {reached: machine[reached] for reached in track[signs]}
        waiting = []
        for place, row in rows.items():
            if signs == len(text) and place in goals:
                useful[(signs, place)] = ()
                waiting.append(place)
            elif row[0] == "sign" and text[signs:signs + 1] == row[1] and (signs + 1, row[2]) in useful:
                useful[(signs, place)] = (((signs + 1, row[2]), row[1]),)
                waiting.append(place)
        for place in come_from(rows, waiting):
            useful[(signs, place)] = ()
        add_mark_edges(useful, rows, signs)
    return useful


def come_from(rows, places):
    """All places with marks from which marks lead to some places."""
    sources = {reached: [] for reached in rows}
    for place, row in rows.items():
        if row[0] == "marks":
            for _, behind in row[1]:
                sources[behind].append(place)
    found = {}
    waiting = list(places)
    while waiting:
        place = waiting.pop()
        for source in sources[place]:
            if source not in found:
                found[source] = True
                waiting.append(source)
    return found


def add_mark_edges(useful, rows, signs):
    """Put the edges by marks to the keys of a layer."""
    for place, row in rows.items():
        if row[0] == "marks" and (signs, place) in useful:
            edges = [((signs, behind), mark) for mark, behind in items_behind(row)]
            useful[(signs, place)] = tuple([edge for edge in edges if edge[0] in useful])


def listed_rows(useful):
    """All rows of items along the edges, ascending, from the beginning to where nothing follows."""
    rows = []
    items = []
    waiting = [(0, "", (0, 0))] if (0, 0) in useful else []
    while waiting:
        many, item, key = waiting.pop()
        del items[many:]
        items.append(item)
        if not useful[key]:
            rows.append(tuple(items[1:]))
        for behind, next_item in reversed(useful[key]):
            waiting.append((many + 1, next_item, behind))
    return rows
