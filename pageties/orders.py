"""Rows that take as few pages as any."""

from pageties.pages import fewest_pages, page_count
from pageties.pairs import span_of, spots_of
from pageties.webs import rising_pair


# All places that do not stand yet are taken as one, behind those that do. So ties that go there clash
# with the others as they will wherever they end, and with one another not: no row that begins like
# this takes fewer pages than this web.
def web_so_far(web, begin):
    spots = spots_of(begin)
    behind = len(begin)
    for place in range(web[0]):
        spots.setdefault(place, behind)
    spans = [span_of(spots, tie) for tie in web[1]]
    return (behind + 1, tuple(sorted(set([span for span in spans if span[0] < behind]))))


def can_be_within(web, kind, many, begin):
    known = web_so_far(web, begin)
    return page_count(fewest_pages(known, tuple(range(known[0])), kind)) <= many


def are_tied(web, one, other):
    return rising_pair(one, other) in web[1]


# Two places tied to the same others can be exchanged in a row, and it takes as many pages.
def are_alike(web, one, other):
    rest = [place for place in range(web[0]) if place not in (one, other)]
    return all([are_tied(web, one, place) == are_tied(web, other, place) for place in rest])


def first_alike(web, place):
    return min([other for other in range(web[0]) if are_alike(web, place, other)])


# Of places that are alike, trying the first one that does not stand yet is enough.
def places_to_try(alike, begin):
    tried = {}
    for place, first in enumerate(alike):
        if place not in begin:
            tried.setdefault(first, place)
    return list(tried.values())


def row_within(web, kind, many, alike, begin):
    if not can_be_within(web, kind, many, begin):
        return None
    if len(begin) == web[0]:
        return begin
    for place in places_to_try(alike, begin):
        found = row_within(web, kind, many, alike, begin + (place,))
        if found is not None:
            return found
    return None


# A row moved round takes as many piles, so that for piles place 0 may stand first.
def best_row(web, kind):
    begin = (0,) if kind == "pile" else ()
    alike = [first_alike(web, place) for place in range(web[0])]
    many = 0
    found = row_within(web, kind, many, alike, begin)
    while found is None:
        many += 1
        found = row_within(web, kind, many, alike, begin)
    return found


def least_pages(web, kind):
    return page_count(fewest_pages(web, best_row(web, kind), kind))
