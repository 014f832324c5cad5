"""Pairs of ties along a row: how they lie, and which of them clash."""

from pageties.webs import are_rising, is_whole, rising_pair

# How two ties must lie to clash on a page of the kind.
CLASHING = {"pile": "cross", "queue": "within"}


def spots_of(row):
    spots = {}
    for spot, place in enumerate(row):
        spots[place] = spot
    return spots


# A tie's span is where along the row it begins and ends.
def span_of(spots, tie):
    return rising_pair(spots[tie[0]], spots[tie[1]])


def spans_of(web, row):
    spots = spots_of(row)
    return [span_of(spots, tie) for tie in web[1]]


def how_spans_lie(one, other):
    if one[0] in other or one[1] in other:
        return "meet"
    first = min(one, other)
    second = max(one, other)
    if first[1] < second[0]:
        return "apart"
    return "cross" if first[1] < second[1] else "within"


def do_spans_clash(one, other, kind):
    return how_spans_lie(one, other) == CLASHING[kind]


def how(web, row, one, other):
    spans = spans_of(web, row)
    return how_spans_lie(spans[one], spans[other])


def clashes(web, row, kind):
    spans = spans_of(web, row)
    found = []
    for one, span in enumerate(spans):
        later = [other for other in range(one + 1, len(spans)) if do_spans_clash(span, spans[other], kind)]
        found.extend([(one, other) for other in later])
    return tuple(found)


def ties_over(spans, gap):
    over = [tie for tie in range(len(spans)) if spans[tie][0] <= gap < spans[tie][1]]
    return sorted(over, key=lambda tie: spans[tie])


# The ties come as they begin, and all lie over one gap. Of such ties, if the first clashes with the
# second and the second with the third, so does the first with the third: each chain's end is enough to ask.
def longest_chain(spans, ties, kind):
    chains = []
    for tie in ties:
        before = [chain for chain in chains if do_spans_clash(spans[chain[-1]], spans[tie], kind)]
        chains.append(max(before, key=len, default=()) + (tie,))
    return max(chains, key=len, default=())


# Ties each two of which clash all lie over some one gap between two places of the row.
def greatest(web, row, kind):
    spans = spans_of(web, row)
    found = ()
    for gap in range(web[0] - 1):
        found = max(found, longest_chain(spans, ties_over(spans, gap), kind), key=len)
    return tuple(sorted(found))


def is_tie_number(web, thing):
    return is_whole(thing) and 0 <= thing < len(web[1])


# What rises can be asked only behind the kinds: other things may not be compared at all.
def are_tie_numbers(web, thing):
    if not isinstance(thing, tuple):
        return False
    return all([is_tie_number(web, tie) for tie in thing]) and are_rising(thing)


def are_clashing(web, row, kind, thing):
    if not are_tie_numbers(web, thing):
        return False
    spans = spans_of(web, row)
    for k, tie in enumerate(thing):
        if not all([do_spans_clash(spans[tie], spans[other], kind) for other in thing[k + 1:]]):
            return False
    return True
