"""What the document promises over the whole program: [0.2], [0.3], [0.4]."""

import itertools
import unittest

from pageties.changing import full, halves, moved, renamed, round_web, turned, with_tie, without_tie
from pageties.errors import NoRun
from pageties.orders import best_row, least_pages
from pageties.pages import are_right, fewest_pages, page_count
from pageties.pairs import are_clashing, clashes, greatest, how
from pageties.papers import is_paper, paper_against
from pageties.runs import is_run, run
from pageties.webs import is_row, is_web
from pageties.reading import read
from pageties.writing import written
from tests.things import KINDS, do_clash, is_plainly_made, rows_of, twelve_tie_webs, webs_beyond, webs_of


def pages_of(web, row, kind):
    return page_count(fewest_pages(web, row, kind))


def ties_of_page(pages, page):
    return tuple(tie for tie in range(len(pages)) if pages[tie] == page)


def does_run(web, row, kind, some):
    try:
        told = run(web, row, kind, some)
    except NoRun:
        return False
    assert is_run(web, row, kind, some, told) is True
    return True


def some_webs_and_rows():
    for many in range(1, 5):
        for web in webs_of(many):
            for row in rows_of(many):
                yield web, row
    for web in webs_of(5)[::23]:
        for row in rows_of(5, 29):
            yield web, row
    for web in twelve_tie_webs(57):
        for row in rows_of(6, 199):
            yield web, row
    for web in webs_beyond():
        yield web, tuple(range(web[0]))
        yield web, tuple(range(1, web[0], 2)) + tuple(range(0, web[0], 2))


class Whole(unittest.TestCase):
    # (a)
    def test_webs_and_texts_tell_one_another(self):
        for many in range(1, 6):
            for web in webs_of(many):
                if is_web(web):
                    self.assertEqual(read(written(web)), web)

    # (b)
    def test_as_few_pages_as_can_be(self):
        for web, row in some_webs_and_rows():
            for kind in KINDS:
                pages = fewest_pages(web, row, kind)
                clashing = greatest(web, row, kind)
                self.assertIs(are_right(web, row, kind, pages), True)
                self.assertIs(are_clashing(web, row, kind, clashing), True)
                self.assertGreaterEqual(page_count(pages), len(clashing))
                for many in range(page_count(pages)):
                    paper = paper_against(web, row, kind, many)
                    self.assertIs(is_paper(web, row, kind, many, paper), True, (web, row, kind, many))
                self.assertIsNone(paper_against(web, row, kind, page_count(pages)))

    # (c)
    def test_queues_are_as_many_as_lie_within_one_another(self):
        for web, row in some_webs_and_rows():
            self.assertEqual(pages_of(web, row, "queue"), len(greatest(web, row, "queue")))

    # (d)
    def test_no_row_takes_fewer_pages(self):
        for web, row in some_webs_and_rows():
            if web[0] < 5:
                for kind in KINDS:
                    best = best_row(web, kind)
                    self.assertIs(is_row(web, best), True)
                    self.assertEqual(pages_of(web, best, kind), least_pages(web, kind))
                    self.assertLessEqual(least_pages(web, kind), pages_of(web, row, kind), (web, row, kind))

    # (e)
    def test_a_page_is_right_just_if_it_runs(self):
        for web, row in some_webs_and_rows():
            for kind in KINDS:
                for count in (2, 3):
                    for some in itertools.islice(itertools.combinations(range(len(web[1])), count), 0, 100):
                        clash = any(do_clash(web, row, kind, *pair) for pair in itertools.combinations(some, 2))
                        self.assertIs(does_run(web, row, kind, some), not clash, (web, row, kind, some))

    def test_the_told_pages_run(self):
        for web, row in some_webs_and_rows():
            for kind in KINDS:
                pages = fewest_pages(web, row, kind)
                for page in range(page_count(pages)):
                    self.assertTrue(does_run(web, row, kind, ties_of_page(pages, page)), (web, row, kind, pages))

    def test_ties_that_clash_do_not_run(self):
        for web, row in some_webs_and_rows():
            for kind in KINDS:
                for pair in clashes(web, row, kind):
                    self.assertFalse(does_run(web, row, kind, pair), (web, row, kind, pair))

    def test_pages_are_right_just_if_each_runs(self):
        for web in (full(4), round_web(5), halves(2, 3)):
            for row in rows_of(web[0], 7):
                for kind in KINDS:
                    for pages in itertools.product((0, 1), repeat=len(web[1])):
                        runs = all(does_run(web, row, kind, ties_of_page(pages, page)) for page in (0, 1))
                        self.assertIs(are_right(web, row, kind, pages), runs, (web, row, kind, pages))

    # (f)
    def test_a_row_moved_round_takes_as_many_piles(self):
        for web, row in some_webs_and_rows():
            for by in range(1, web[0]):
                self.assertEqual(pages_of(web, moved(row, by), "pile"), pages_of(web, row, "pile"), (web, row, by))

    # Queues are not promised to be as many, and are not: moved tells another row, not the same again.
    def test_a_row_moved_round_may_take_other_queues(self):
        web = (4, ((0, 3), (1, 2)))
        self.assertEqual(pages_of(web, (0, 1, 2, 3), "queue"), 2)
        self.assertEqual(pages_of(web, moved((0, 1, 2, 3), 1), "queue"), 1)

    def test_a_row_turned_takes_as_many_of_both(self):
        for web, row in some_webs_and_rows():
            for kind in KINDS:
                self.assertEqual(pages_of(web, turned(row), kind), pages_of(web, row, kind), (web, row))

    def test_a_tie_more_takes_at_most_one_page_more(self):
        for web, row in some_webs_and_rows():
            if web[0] > 6:
                continue
            for kind in KINDS:
                before = pages_of(web, row, kind)
                for one, other in full(web[0])[1]:
                    more = with_tie(web, other, one)
                    self.assertIn(pages_of(more, row, kind) - before, (0, 1) if more != web else (0,))

    def test_a_tie_less_takes_at_most_one_page_less(self):
        for web, row in some_webs_and_rows():
            for kind in KINDS:
                before = pages_of(web, row, kind)
                for tie in range(len(web[1])):
                    self.assertIn(before - pages_of(without_tie(web, tie), row, kind), (0, 1))

    # A web and its row renamed alike lie just as before.
    def test_names_change_nothing(self):
        for web, row in itertools.islice(some_webs_and_rows(), 0, None, 5):
            names = turned(moved(tuple(range(web[0])), 1))
            other = renamed(web, names)
            placed = tuple(names[place] for place in row)
            for kind in KINDS:
                self.assertEqual(pages_of(other, placed, kind), pages_of(web, row, kind))
                self.assertEqual(len(clashes(other, placed, kind)), len(clashes(web, row, kind)))


def all_told(web, row, kind):
    told = [
        clashes(web, row, kind), greatest(web, row, kind), fewest_pages(web, row, kind),
        best_row(web, kind), least_pages(web, kind), moved(row, 2), turned(row), renamed(web, row),
        full(web[0]), round_web(web[0] + 2), halves(web[0], 2),
    ]
    told += [paper_against(web, row, kind, many) for many in range(4)]
    for tie in range(len(web[1])):
        told += [run(web, row, kind, (tie,)), without_tie(web, tie), with_tie(web, *web[1][tie])]
    told += [how(web, row, *pair) for pair in itertools.combinations(range(len(web[1])), 2)]
    return told


class Things(unittest.TestCase):
    def test_told_the_same_again_and_plainly(self):
        webs = webs_of(3) + webs_of(4)[::9] + webs_of(5)[::150] + twelve_tie_webs(200)
        for web in webs:
            for row in rows_of(web[0], 101):
                for kind in KINDS:
                    told = all_told(web, row, kind)
                    self.assertTrue(all(is_plainly_made(thing) for thing in told), (web, row, kind))
                    self.assertEqual(all_told(web, row, kind), told)


if __name__ == "__main__":
    unittest.main()
