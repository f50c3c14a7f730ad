"""Machines made in another way than the package makes them: from all scores, one by one."""


def is_mark(item):
    return len(item) > 1


def machine_from_scores(scores):
    """The machine of finitely many scores: a tree of what follows, like trees being one place."""
    tree = {}
    for row in scores:
        node = tree
        for item in row:
            node = node.setdefault(item, {})
    kinds = {}
    top = kind_of(tree, kinds)
    rows = {number: key for key, number in kinds.items()}
    return numbered(top, rows)


def kind_of(tree, kinds):
    # Without recursion: scores may be long.
    stack = [(tree, iter(sorted(tree)), [])]
    done = None
    while stack:
        node, left, found = stack[-1]
        if done is not None:
            found.append(done)
            done = None
        item = next(left, None)
        if item is not None:
            stack.append((node[item], iter(sorted(node[item])), []))
            continue
        stack.pop()
        key = tuple(zip(sorted(node), found))
        done = kinds.setdefault(key, len(kinds))
    return done


def numbered(top, rows):
    numbers = {top: 0}
    order = [top]
    places = []
    for kind in order:
        for _, behind in rows[kind]:
            if behind not in numbers:
                numbers[behind] = len(order)
                order.append(behind)
    for kind in order:
        row = tuple((item, numbers[behind]) for item, behind in rows[kind])
        if not row:
            places.append(("end",))
        elif is_mark(row[0][0]):
            assert all(is_mark(item) for item, _ in row)
            places.append(("marks", row))
        else:
            assert len(row) == 1
            places.append(("sign",) + row[0])
    return tuple(places)


def steps(machine, place):
    row = machine[place]
    if row[0] == "marks":
        return list(row[1])
    return [] if row[0] == "end" else [(row[1], row[2])]


def kinds_apart(machine):
    """How many kinds of places there are, told apart by what follows them, step by step."""
    kinds = [row[0] for row in machine]
    while True:
        keys = [(kinds[place], tuple((item, kinds[behind]) for item, behind in steps(machine, place)))
                for place in range(len(machine))]
        numbers = {}
        told = [numbers.setdefault(key, len(numbers)) for key in keys]
        if len(numbers) == len(set(kinds)):
            return len(numbers)
        kinds = told


def order_reached(machine):
    """The places in the order in which they are reached."""
    order = [0]
    for place in order:
        for _, behind in steps(machine, place):
            if behind not in order:
                order.append(behind)
    return order


def rows_of_items(rng, machine, size):
    """Rows of items along ways from 0 to an end, which are chosen at random, the last mark more often."""
    found = []
    for _ in range(size):
        row = []
        place = 0
        while machine[place] != ("end",):
            choices = steps(machine, place)
            item, place = choices[-1] if rng.random() < 0.2 else rng.choice(choices)
            row.append(item)
        found.append(tuple(row))
    return found
