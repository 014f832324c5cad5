"""Runs: a pile, or a queue, from which ties are taken as they end, going along a row."""

from pageties.errors import NoRun
from pageties.pairs import is_tie_number, spans_of


def ties_beginning(spans, some, spot):
    return [tie for tie in some if spans[tie][0] == spot]


def ties_ending(spans, some, spot):
    return [tie for tie in some if spans[tie][1] == spot]


# None where other ties stand in the way of those that end.
def left_of(kind, held, ending):
    if kind == "queue":
        taken = held[:len(ending)]
        left = held[len(ending):]
    else:
        taken = held[len(held) - len(ending):]
        left = held[:len(held) - len(ending)]
    return left if sorted(taken) == ending else None


# Of ties that are laid on together, one that ends sooner must be within reach sooner.
def as_laid_on(spans, kind, beginning):
    sooner_first = tuple(sorted(beginning, key=lambda tie: spans[tie][1]))
    return sooner_first if kind == "queue" else sooner_first[::-1]


def run(web, row, kind, some):
    spans = spans_of(web, row)
    told = []
    held = ()
    for spot in range(len(row)):
        left = left_of(kind, held, ties_ending(spans, some, spot))
        if left is None:
            raise NoRun(f"some of these ties clash: {some!r}")
        held = left + as_laid_on(spans, kind, ties_beginning(spans, some, spot))
        told.append(held)
    return tuple(told)


def are_held(web, thing):
    return isinstance(thing, tuple) and all([is_tie_number(web, tie) for tie in thing])


def is_step(kind, held, ending, beginning, then):
    left = left_of(kind, held, ending)
    if left is None:
        return False
    return then[:len(left)] == left and sorted(then[len(left):]) == beginning


def is_run(web, row, kind, some, thing):
    if not isinstance(thing, tuple) or len(thing) != len(row):
        return False
    if not all([are_held(web, then) for then in thing]):
        return False
    spans = spans_of(web, row)
    held = ()
    for spot, then in enumerate(thing):
        if not is_step(kind, held, ties_ending(spans, some, spot), ties_beginning(spans, some, spot), then):
            return False
        held = then
    return True
