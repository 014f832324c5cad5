"""Pages: which are right, and right ones that are as few as can be."""

from pageties.pairs import clashes, greatest, spans_of
from pageties.webs import is_whole


def are_pages(web, thing):
    if not isinstance(thing, tuple) or len(thing) != len(web[1]):
        return False
    return all([is_whole(page) and page >= 0 for page in thing])


def are_right(web, row, kind, thing):
    if not are_pages(web, thing):
        return False
    return all([thing[one] != thing[other] for one, other in clashes(web, row, kind)])


def page_count(pages):
    return len(set(pages))


def rivals_of(web, row, kind):
    rivals = [[] for tie in web[1]]
    for one, other in clashes(web, row, kind):
        rivals[one].append(other)
        rivals[other].append(one)
    return rivals


def numbered_as_they_come(pages):
    numbers = {}
    for page in pages:
        numbers.setdefault(page, len(numbers))
    return tuple([numbers[page] for page in pages])


def taken_by_rivals(rivals, pages, tie):
    return [pages[rival] for rival in rivals[tie] if rival in pages]


# Taken as they begin, each tie comes behind all those that it lies within. So its page is how many
# lie one within another around it at most, and there are as many pages as ties clash, each two.
def queue_pages(web, row, rivals):
    spans = spans_of(web, row)
    pages = {}
    for tie in sorted(range(len(spans)), key=lambda k: spans[k]):
        taken = taken_by_rivals(rivals, pages, tie)
        pages[tie] = min([page for page in range(len(taken) + 1) if page not in taken])
    return pages


def group_around(rivals, tie):
    group = [tie]
    reached = 0
    while reached < len(group):
        group.extend([rival for rival in rivals[group[reached]] if rival not in group])
        reached += 1
    return group


# Ties of different groups never clash, so that each group can be laid on pages by itself.
def groups_of(rivals):
    groups = []
    grouped = {}
    for tie in range(len(rivals)):
        if tie not in grouped:
            groups.append(group_around(rivals, tie))
            for member in groups[-1]:
                grouped[member] = True
    return groups


# The tie with the fewest pages left is laid next: where none fits, this is found out early.
def hardest_tie(rivals, group, pages):
    left = [tie for tie in group if tie not in pages]
    return max(left, key=lambda tie: (page_count(taken_by_rivals(rivals, pages, tie)), len(rivals[tie])))


# Pages that no tie has yet are all alike: trying the next one of them is enough.
def pages_to_try(pages, many):
    return list(range(min(many, page_count(list(pages.values())) + 1)))


def with_page(pages, tie, page):
    more = dict(pages)
    more[tie] = page
    return more


def laid_on(rivals, group, pages, many):
    if len(pages) == len(group):
        return pages
    tie = hardest_tie(rivals, group, pages)
    taken = taken_by_rivals(rivals, pages, tie)
    for page in pages_to_try(pages, many):
        if page not in taken:
            found = laid_on(rivals, group, with_page(pages, tie, page), many)
            if found is not None:
                return found
    return None


def pile_pages(rivals, many):
    pages = {}
    for group in groups_of(rivals):
        found = laid_on(rivals, group, {}, many)
        while found is None:
            many += 1
            found = laid_on(rivals, group, {}, many)
        pages.update(found)
    return pages


def fewest_pages(web, row, kind):
    rivals = rivals_of(web, row, kind)
    if kind == "queue":
        pages = queue_pages(web, row, rivals)
    else:
        pages = pile_pages(rivals, len(greatest(web, row, kind)))
    return numbered_as_they_come([pages[tie] for tie in range(len(rivals))])
