"""Drafts of machines for formats, put together from those of the formats within."""

from readagain.drafts import END, START, count_far_nodes, count_places, explored, reduced
from readagain.errors import TooLarge
from readagain.formats import formats_within, plain_format
from readagain.numerals import figures_draft, powers_draft
from readagain.signs import FIGURES, check_number, fills_ahead

MOST_PLACES = 500


def whole_draft(sort, format):
    """The reduced draft of a format; TooLarge if its machine has more than 500 places."""
    return draft_of(sort, format, None, 0)


def draft_of(sort, format, cap, far):
    """The reduced draft of a format, which stands somewhere within another one.

    cap: of a text only so many signs can be seen from outside, and only these are written (None:
    all). far: places that are come to behind so many signs at least stay as many places, whatever
    stands around the format; so if these are too many, the whole machine has too many (None: what
    stands around may make one place of several, nothing can be said yet). Without this, what is
    far too large would be built first.
    """
    builder = BUILDERS[format[0]]
    draft = builder(sort, format, cap, far)
    if cap is not None:
        draft = cut_draft(cap, draft)
    draft = reduced(draft)
    if far is not None:
        many = count_places(draft) if far == 0 else count_far_nodes(draft, far)
        if many > MOST_PLACES:
            raise TooLarge(MOST_PLACES)
    return draft


def drafts_within(sort, format, cap, far):
    """The drafts of the formats directly within one, in their order."""
    return [draft_of(part_sort, part, cap, far) for part_sort, part in formats_within(sort, format)]


def text_draft(text):
    """The draft of a text without marks."""
    return (text, [None])


def choice(pairs):
    """The draft of pairs of marks and drafts: a mark, then its draft."""
    def edges(key):
        if key == START:
            return [(mark, draft[0], inner_key(at, draft, 0)) for at, (mark, draft) in enumerate(pairs)]
        chosen = pairs[key[0]][1]
        return [(mark, text, inner_key(key[0], chosen, node)) for mark, text, node in chosen[1][key[1]]]
    return explored("", START, edges)


def inner_key(at, draft, node):
    """The key of a node of the draft with a number."""
    return END if draft[1][node] is None else (at, node)


def build_figures(sort, format, cap, far):
    """Integers in figures."""
    return figures_draft(sort, format)


def build_powers(sort, format, cap, far):
    """Integers as multiples of powers."""
    return powers_draft(sort, format)


def word_draft(sort, ahead, texts, behind):
    """Words, each sign by its text, between two texts."""
    _, signs, least, most = sort

    def edges(key):
        many = key[0]
        found = []
        if many >= least:
            found.append(("stop", behind, END))
        if most is None or many < most:
            next_key = (many if most is None and many == least else many + 1,)
            for sign in signs:
                found.append((f"letter {sign}", texts.get(sign, sign), next_key))
        return found
    return explored(ahead, (0,), edges)


def build_plain(sort, format, cap, far):
    """Words as they are."""
    return word_draft(sort, "", {}, "")


def build_spelled(sort, format, cap, far):
    """Words with texts for some signs."""
    return word_draft(sort, "", dict(format[1]), "")


def build_quoted(sort, format, cap, far):
    """Words between quotes."""
    quote, escape = format[1:]
    return word_draft(sort, quote, {quote: escape + quote, escape: escape + escape}, quote)


def build_names(sort, format, cap, far):
    """Texts of numbers."""
    return choice([(f"name {number}", text_draft(text)) for number, text in enumerate(format[1])])


def build_maybe(sort, format, cap, far):
    """None, or some value."""
    within = drafts_within(sort, format, cap, far)
    return choice([("none", text_draft(format[1])), ("some", within[0])])


def build_case(sort, format, cap, far):
    """Values of one of several sorts."""
    within = drafts_within(sort, format, cap, far)
    return choice([(f"case {number}", draft) for number, draft in enumerate(within)])


def build_row(sort, format, cap, far):
    """Texts and values, one behind the other."""
    drafts = []
    within = drafts_within(sort, format, cap, far)
    for part in format[1]:
        drafts.append(text_draft(part) if isinstance(part, str) else within[part[0]])
    entries = [("", END)]
    for at in reversed(range(len(drafts))):
        text, nodes = drafts[at]
        behind = entries[-1]
        entries.append((text + behind[0], behind[1]) if nodes[0] is None else (text, (at, 0)))
    entries.reverse()

    def edges(key):
        at, node = key
        nodes = drafts[at][1]
        found = []
        for mark, text, behind in nodes[node]:
            if nodes[behind] is None:
                found.append((mark, text + entries[at + 1][0], entries[at + 1][1]))
            else:
                found.append((mark, text, (at, behind)))
        return found
    return explored(entries[0][0], entries[0][1], edges)


def build_many(sort, format, cap, far):
    """Values between texts. A key (many, None) stands ahead of more, or of the stop."""
    empty, opening, between, closing = format[1:5]
    least, most = sort[2:]
    if most == 0:
        # What is never come to is not built: it may be as large as it likes.
        return choice([("stop", text_draft(empty))])
    top = max(1, least)
    first_text, nodes = drafts_within(sort, format, cap, far)[0]

    def key_of(many, node):
        return (many, None if nodes[node] is None else node)

    def edges(key):
        many, node = key
        if node is not None:
            return [(mark, text, key_of(many, behind)) for mark, text, behind in nodes[node]]
        found = []
        if many >= least:
            found.append(("stop", empty if many == 0 else closing, END))
        if most is None or many < most:
            more = top if most is None and many == top else many + 1
            found.append(("more", (opening if many == 0 else between) + first_text, key_of(more, 0)))
        return found
    return explored("", (0, None), edges)


def build_pad(sort, format, cap, far):
    """Texts that are filled up: what is seen within is seen up to the width at least."""
    width, fill, side, within = format[1:]
    inner_cap = None if cap is None else max(cap, width)
    inner_far = None if far is None or cap is not None and width > cap else max(far, width)
    return pad_draft(width, fill, side, draft_of(sort, within, inner_cap, inner_far))


def pad_draft(width, fill, side, draft):
    """The draft with fills. Keys are (fills, node, how many signs have come, at most the width)."""
    first_text, nodes = draft

    def edge_to(mark, fills, node, ahead, text, signs):
        signs = min(width, signs + len(text))
        if fills > 0 and fills + signs > width or nodes[node] is None and fills + signs < width:
            return []
        if nodes[node] is not None:
            return [(mark, ahead + text, (fills, node, signs))]
        return [(mark, ahead + text + fill * (fills - fills_ahead(fills, side)), END)]

    def edges(key):
        found = []
        if key == START:
            for fills in range(width + 1):
                ahead = fill * fills_ahead(fills, side)
                found.extend(edge_to(f"fills {fills}", fills, 0, ahead, first_text, 0))
            return found
        for mark, text, behind in nodes[key[1]]:
            found.extend(edge_to(mark, key[0], behind, "", text, key[2]))
        return found
    return explored("", START, edges)


def build_cut(sort, format, cap, far):
    """The first signs of texts."""
    most = format[1] if cap is None else min(cap, format[1])
    if far == 0 and most > 0:
        # Without any signs it has no more places than with some, and is built sooner.
        draft_of(sort, format[2], 0, 0)
    return cut_draft(most, draft_of(sort, format[2], most, 0 if far == 0 and most == 0 else None))


def cut_draft(most, draft):
    """The draft without the signs behind the first ones. Keys are (node, how many have come)."""
    first_text, nodes = draft

    def key_of(node, signs):
        return END if nodes[node] is None else (node, min(most, signs))

    def edges(key):
        node, signs = key
        return [(mark, text[:most - signs], key_of(behind, signs + len(text))) for mark, text, behind in nodes[node]]
    return explored(first_text[:most], key_of(0, len(first_text)), edges)


def build_skip(sort, format, cap, far):
    """Nothing is written."""
    return draft_of(sort, plain_format(sort), 0, 0 if far == 0 else None)


def build_checked(sort, format, cap, far):
    """Texts with check signs, which can't be seen if nothing can."""
    draft = draft_of(sort, format[3], cap, far)
    return draft if cap == 0 else checked_draft(format[1], format[2], draft)


def checked_draft(modulus, factor, draft):
    """The draft with check signs. Keys are (node, what the next sign is multiplied by, sum)."""
    first_text, nodes = draft

    def behind_text(node, power, total, text):
        for sign in text:
            total = (total + check_number(sign) * power) % modulus
            power = power * factor % modulus
        if nodes[node] is None:
            return (text + FIGURES[total], END)
        return (text, (node, power, total))

    def edges(key):
        found = []
        for mark, text, behind in nodes[key[0]]:
            written, next_key = behind_text(behind, key[1], key[2], text)
            found.append((mark, written, next_key))
        return found
    first = behind_text(0, 1, 0, first_text)
    return explored(first[0], first[1], edges)


BUILDERS = {
    "figures": build_figures,
    "powers": build_powers,
    "plain": build_plain,
    "spelled": build_spelled,
    "quoted": build_quoted,
    "names": build_names,
    "maybe": build_maybe,
    "row": build_row,
    "many": build_many,
    "case": build_case,
    "pad": build_pad,
    "cut": build_cut,
    "skip": build_skip,
    "checked": build_checked,
}
