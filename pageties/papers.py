"""Papers: that so many pages are not enough."""

from pageties.pages import fewest_pages, groups_of, hardest_tie, laid_on, page_count, pages_to_try, rivals_of, with_page
from pageties.pairs import clashes, greatest, is_tie_number
from pageties.webs import is_whole, rising_pair


# A paper grows fast with the ties that it speaks of, so it speaks of few: of ties each two of which
# clash, one more than there are pages, or else of one group that does not fit by itself.
def ties_that_do_not_fit(web, row, kind, many):
    clashing = greatest(web, row, kind)
    if len(clashing) > many:
        return clashing[:many + 1]
    rivals = rivals_of(web, row, kind)
    return [group for group in groups_of(rivals) if laid_on(rivals, group, {}, many) is None][0]


def paper_with_page(rivals, ties, pages, many, tie, page):
    clashing = [rival for rival in rivals[tie] if rival in pages and pages[rival] == page]
    if clashing:
        return ("clash",) + rising_pair(tie, clashing[0])
    return paper_on(rivals, ties, with_page(pages, tie, page), many)


def paper_on(rivals, ties, pages, many):
    tie = hardest_tie(rivals, ties, pages)
    papers = [paper_with_page(rivals, ties, pages, many, tie, page) for page in pages_to_try(pages, many)]
    return ("tie", tie, tuple(papers))


def paper_against(web, row, kind, many):
    if page_count(fewest_pages(web, row, kind)) <= many:
        return None
    return paper_on(rivals_of(web, row, kind), ties_that_do_not_fit(web, row, kind, many), {}, many)


# Asked for whole numbers first: a truth is equal to a number, and would be found among the pairs.
def is_clash_shown(pairs, pages, one, other):
    if not is_whole(one) or not is_whole(other) or (one, other) not in pairs:
        return False
    return one in pages and other in pages and pages[one] == pages[other]


def is_tie_shown(web, pairs, pages, many, tie, papers):
    if not is_tie_number(web, tie) or tie in pages:
        return False
    if not isinstance(papers, tuple) or len(papers) != len(pages_to_try(pages, many)):
        return False
    for page, paper in enumerate(papers):
        if not is_paper_behind(web, pairs, with_page(pages, tie, page), many, paper):
            return False
    return True


def is_paper_behind(web, pairs, pages, many, thing):
    if not isinstance(thing, tuple) or len(thing) != 3:
        return False
    if thing[0] == "tie":
        return is_tie_shown(web, pairs, pages, many, thing[1], thing[2])
    return thing[0] == "clash" and is_clash_shown(pairs, pages, thing[1], thing[2])


def is_paper(web, row, kind, many, thing):
    return is_paper_behind(web, clashes(web, row, kind), {}, many, thing)
