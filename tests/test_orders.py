"""Rows that take as few pages as any: [0.2], [5.1]."""

import itertools
import unittest

from pageties.orders import best_row, least_pages
from pageties.pages import fewest_pages, page_count
from pageties.webs import is_row
from tests.things import KINDS, full, is_plainly_made, rows_of, twelve_tie_webs, webs_beyond, webs_of


def halved(one, other):
    return (one + other, tuple((k, one + n) for k in range(one) for n in range(other)))


def ring(many):
    return (many, tuple(sorted([(k, k + 1) for k in range(many - 1)] + [(0, many - 1)])))


def pages_of(web, row, kind):
    return page_count(fewest_pages(web, row, kind))


# The fewest pages of all rows, each of them gone through.
def fewest_of_all_rows(web, kind):
    return min(pages_of(web, row, kind) for row in rows_of(web[0]))


class Rows(unittest.TestCase):
    def is_told(self, web, kind):
        row = best_row(web, kind)
        least = least_pages(web, kind)
        self.assertIs(is_row(web, row), True, (web, kind, row))
        self.assertTrue(is_plainly_made(row))
        self.assertIs(type(least), int)
        self.assertEqual(pages_of(web, row, kind), least, (web, kind, row))
        self.assertEqual(best_row(web, kind), row)
        self.assertEqual(least_pages(web, kind), least)
        return least

    def holds(self, web, kind):
        self.assertEqual(self.is_told(web, kind), fewest_of_all_rows(web, kind), (web, kind))

    def takes(self, web, piles, queues):
        self.assertEqual(self.is_told(web, "pile"), piles, web)
        self.assertEqual(self.is_told(web, "queue"), queues, web)

    def test_no_ties(self):
        for many in (1, 2, 3, 6, 9):
            self.takes((many, ()), 0, 0)
        for kind in KINDS:
            self.assertEqual(best_row((1, ()), kind), (0,))

    def test_one_tie(self):
        for many in (2, 3, 6):
            for tie in full(many)[1]:
                self.takes((many, (tie,)), 1, 1)

    def test_rows_that_have_to_be_looked_for(self):
        crossing = (6, ((0, 3), (1, 4), (2, 5)))
        self.assertEqual(pages_of(crossing, (0, 1, 2, 3, 4, 5), "pile"), 3)
        self.takes(crossing, 1, 1)
        nested = (6, ((0, 5), (1, 4), (2, 3)))
        self.assertEqual(pages_of(nested, (0, 1, 2, 3, 4, 5), "queue"), 3)
        self.takes(nested, 1, 1)
        for many in range(4, 9):
            self.assertEqual(pages_of(ring(many), tuple(range(many)), "queue"), 2)
            self.takes(ring(many), 1, 1)

    # Known of webs in which each two places are tied, whatever their row.
    def test_each_two_places_tied(self):
        for many in range(4, 9):
            self.takes(full(many), (many + 1) // 2, many // 2)
        self.takes(full(2), 1, 1)
        self.takes(full(3), 1, 1)

    # Known: two halves of two places are a ring; two and three are drawn on two piles, not on one;
    # three and three can't be drawn without crossing even on both sides of a row.
    def test_halves(self):
        for other in range(1, 7):
            self.takes(halved(1, other), 1, 1)
        self.takes(halved(2, 2), 1, 1)
        self.takes(halved(2, 3), 2, 1)
        self.takes(halved(2, 4), 2, 1)
        self.takes(halved(3, 3), 3, 2)
        self.takes(halved(3, 4), 3, 2)

    def test_all_webs_of_one_to_four_places(self):
        for many in range(1, 5):
            for web in webs_of(many):
                for kind in KINDS:
                    self.holds(web, kind)

    def test_webs_of_five_places(self):
        for web in webs_of(5)[::9]:
            for kind in KINDS:
                self.holds(web, kind)

    def test_webs_of_six_places(self):
        eight = itertools.islice(itertools.combinations(full(6)[1], 8), 7, None, 2200)
        for web in [(6, ties) for ties in eight] + twelve_tie_webs(150):
            for kind in KINDS:
                self.holds(web, kind)

    def test_twelve_ties(self):
        for web in twelve_tie_webs(15):
            for kind in KINDS:
                self.is_told(web, kind)

    # A web takes as many pages whatever its places are called.
    def test_places_called_otherwise(self):
        for web in ((6, ((0, 1), (0, 3), (1, 4), (1, 5), (2, 4), (2, 5), (3, 5))), halved(2, 4), ring(6)):
            for names in rows_of(6, 53):
                ties = tuple(sorted(tuple(sorted((names[one], names[other]))) for one, other in web[1]))
                for kind in KINDS:
                    self.assertEqual(self.is_told((6, ties), kind), least_pages(web, kind), (web, names))

    def test_webs_beyond_the_bounds(self):
        for web in webs_beyond():
            for kind in KINDS:
                least = self.is_told(web, kind)
                for row in (tuple(range(web[0])), tuple(range(1, web[0], 2)) + tuple(range(0, web[0], 2))):
                    self.assertLessEqual(least, pages_of(web, row, kind))
        seven = (7, full(7)[1][2:20:2])
        for kind in KINDS:
            self.assertEqual(self.is_told(seven, kind), fewest_of_all_rows(seven, kind))


if __name__ == "__main__":
    unittest.main()
