"""Pages: which are right, how many they are, and the fewest: [0.2], [0.5], [3.1]."""

import copy
import itertools
import unittest

from pageties.pages import are_right, fewest_pages, page_count
from pageties.pairs import greatest
from tests.things import (
    KINDS, PLAIN_THINGS, clashing_pairs, deep_things, full, is_enough, keeps_apart, rows_of, twelve_tie_webs,
    webs_beyond, webs_of,
)

CROSSING = (6, ((0, 3), (1, 4), (2, 5)))
NESTED = (6, ((0, 5), (1, 4), (2, 3)))
SIX = (0, 1, 2, 3, 4, 5)

# Its five ties cross in a ring: no three cross, each two, and yet two pages are not enough.
RING = (5, ((0, 2), (0, 3), (1, 3), (1, 4), (2, 4)))
FIVE = (0, 1, 2, 3, 4)

# Webs, rows and how many piles are enough, where taking always the next page that fits takes more:
# for the first ones as many as ties cross, each two, for the last ones one more.
PILES_THAT_MISLEAD = [
    ((8, ((0, 1), (0, 3), (1, 5), (1, 6), (1, 7), (2, 4), (4, 5), (4, 7), (6, 7))),
     (0, 7, 4, 1, 2, 3, 6, 5), 3),
    ((8, ((0, 2), (0, 5), (0, 6), (2, 3), (3, 6), (3, 7), (4, 5), (4, 7), (5, 6), (6, 7))),
     (2, 1, 7, 0, 4, 3, 6, 5), 3),
    ((9, ((0, 2), (0, 4), (0, 7), (1, 3), (1, 4), (2, 4), (2, 5), (2, 6), (3, 7), (6, 8))),
     (3, 5, 8, 0, 4, 6, 7, 1, 2), 3),
    ((7, ((0, 3), (0, 4), (0, 5), (1, 3), (1, 4), (1, 6), (2, 3), (2, 4), (2, 6), (3, 5), (3, 6), (4, 6), (5, 6))),
     (6, 1, 3, 4, 5, 2, 0), 3),
    ((8, ((0, 1), (0, 2), (0, 7), (1, 2), (1, 4), (1, 5), (1, 6), (1, 7), (2, 3), (2, 4), (2, 5), (2, 6), (2, 7),
          (3, 4), (3, 6), (3, 7), (4, 6), (4, 7), (5, 6), (5, 7), (6, 7))),
     (7, 0, 3, 5, 2, 4, 1, 6), 4),
    ((9, ((0, 3), (0, 4), (0, 8), (1, 2), (1, 3), (1, 4), (1, 5), (1, 7), (1, 8), (2, 3), (2, 4), (2, 5), (2, 7),
          (2, 8), (3, 6), (4, 8), (5, 6), (5, 7), (6, 8), (7, 8))),
     (8, 2, 4, 6, 5, 1, 3, 7, 0), 4),
]


class AreRight(unittest.TestCase):
    def told(self, web, row, kind, thing, wanted):
        self.assertIs(are_right(web, row, kind, thing), wanted, (web, row, kind, thing))

    def test_plain_ones(self):
        self.told(CROSSING, SIX, "pile", (0, 1, 2), True)
        self.told(CROSSING, SIX, "pile", (0, 0, 1), False)
        self.told(CROSSING, SIX, "pile", (0, 1, 0), False)
        self.told(CROSSING, SIX, "pile", (1, 0, 0), False)
        self.told(CROSSING, SIX, "queue", (0, 0, 0), True)
        self.told(NESTED, SIX, "queue", (0, 1, 2), True)
        self.told(NESTED, SIX, "queue", (0, 1, 0), False)
        self.told(NESTED, SIX, "pile", (0, 0, 0), True)

    def test_whatever_numbers_from_0_on(self):
        for thing in ((2, 1, 0), (5, 3, 9), (10 ** 50, 0, 7), (3, 2, 10 ** 50)):
            self.told(CROSSING, SIX, "pile", thing, True)
            self.told(NESTED, SIX, "queue", thing, True)
        for page in (0, 1, 12, 10 ** 50):
            self.told(CROSSING, SIX, "queue", (page, page, page), True)
            self.told(CROSSING, SIX, "pile", (page, 4, page), False)
            self.told(NESTED, SIX, "pile", (page, page, page), True)

    def test_no_ties(self):
        for kind in KINDS:
            for many in (1, 2, 6, 9):
                row = tuple(range(many))
                self.told((many, ()), row, kind, (), True)
                self.told((many, ()), row, kind, (0,), False)
                self.told((many, ()), row, kind, [], False)
                self.told((many, ()), row, kind, "", False)

    def test_all_pages_of_small_webs(self):
        for web, rows in ((full(4), rows_of(4, 5)), (RING, rows_of(5, 17))):
            for row in rows:
                for kind in KINDS:
                    pairs = clashing_pairs(web, row, kind)
                    for thing in itertools.product(range(3), repeat=len(web[1])):
                        self.told(web, row, kind, thing, keeps_apart(pairs, thing))

    def test_too_short_or_too_long(self):
        for kind in KINDS:
            for thing in ((), (0,), (0, 1), (0, 1, 2, 3), (0, 1, 2, 3, 4), (0, 1, 2) * 12):
                self.told(CROSSING, SIX, kind, thing, False)
                self.told(NESTED, SIX, kind, thing, False)

    def test_numbers_below_0(self):
        for kind in KINDS:
            for thing in ((-1, 0, 1), (0, -1, 1), (0, 1, -1), (-1, -2, -3), (0, 1, -(10 ** 50))):
                self.told(CROSSING, SIX, kind, thing, False)
                self.told(NESTED, SIX, kind, thing, False)

    def test_truths(self):
        for kind in KINDS:
            for thing in ((0, 1, True), (False, 1, 2), (0, True, 2), (True, False, 2), (True, True, True)):
                self.told(CROSSING, SIX, kind, thing, False)
                self.told(NESTED, SIX, kind, thing, False)
            self.told((2, ((0, 1),)), (0, 1), kind, (False,), False)
            self.told((2, ((0, 1),)), (0, 1), kind, (True,), False)

    def test_lists_and_texts(self):
        for kind in KINDS:
            for thing in (
                [0, 1, 2], "012", "abc", ("0", "1", "2"), ([0], [1], [2]), ((0,), (1,), (2,)), ([0, 1, 2],),
                ((0, 1, 2),), (0, 1, [2]), (0, 1, (2,)), (0, 1, "2"), (0, 1, None), (None, None, None),
            ):
                self.told(CROSSING, SIX, kind, thing, False)
                self.told(NESTED, SIX, kind, thing, False)

    def test_other_things(self):
        for thing in PLAIN_THINGS + deep_things():
            for kind in KINDS:
                self.told(CROSSING, SIX, kind, thing, False)
                self.told(full(7), tuple(range(7)), kind, thing, False)

    def test_what_is_handed_in_stays(self):
        things = deep_things() + [[2, 1, 0], ([2], [1], [0]), (0, 1, [2, 1])]
        before = copy.deepcopy(things)
        for thing in things:
            for kind in KINDS:
                self.assertIs(are_right(CROSSING, SIX, kind, thing), are_right(CROSSING, SIX, kind, thing))
        self.assertEqual(things, before)

    def test_other_things_as_a_part(self):
        for part in PLAIN_THINGS + deep_things():
            is_page = isinstance(part, int) and not isinstance(part, bool) and part >= 0
            for kind in KINDS:
                self.told((2, ((0, 1),)), (0, 1), kind, (part,), is_page)
                self.told(CROSSING, SIX, kind, (7, 8, part), is_page)

    def test_webs_beyond_the_bounds(self):
        for web in webs_beyond():
            row = tuple(range(web[0]))
            for kind in KINDS:
                unlike = tuple(range(len(web[1])))
                self.told(web, row, kind, unlike, True)
                self.told(web, row, kind, unlike[:-1], False)
                self.told(web, row, kind, unlike[:-1] + (True,), False)
                for one, other in itertools.combinations(unlike, 2):
                    thing = unlike[:other] + (one,) + unlike[other + 1:]
                    self.told(web, row, kind, thing, (one, other) not in clashing_pairs(web, row, kind))


class PageCount(unittest.TestCase):
    def test_none(self):
        self.assertEqual(page_count(()), 0)

    def test_all_the_same(self):
        self.assertEqual(page_count((0,)), 1)
        self.assertEqual(page_count((0, 0, 0)), 1)
        self.assertEqual(page_count((7, 7, 7, 7)), 1)

    def test_all_unlike(self):
        self.assertEqual(page_count((0, 1, 2)), 3)
        self.assertEqual(page_count((2, 0, 1)), 3)
        self.assertEqual(page_count(tuple(range(40))), 40)

    def test_numbers_left_out(self):
        self.assertEqual(page_count((5,)), 1)
        self.assertEqual(page_count((0, 2)), 2)
        self.assertEqual(page_count((9, 3, 9, 10 ** 50)), 3)

    def test_some_the_same(self):
        self.assertEqual(page_count((0, 1, 0, 1)), 2)
        self.assertEqual(page_count((0, 1, 0, 2, 2)), 3)


class FewestPages(unittest.TestCase):
    def are_numbered_as_they_come(self, pages):
        self.assertIs(type(pages), tuple)
        reached = 0
        for page in pages:
            self.assertIs(type(page), int)
            self.assertIn(page, range(reached + 1), pages)
            reached = max(reached, page + 1)

    def are_well_formed(self, web, row, kind):
        told = fewest_pages(web, row, kind)
        self.are_numbered_as_they_come(told)
        self.assertEqual(len(told), len(web[1]))
        self.assertTrue(keeps_apart(clashing_pairs(web, row, kind), told), (web, row, kind, told))
        self.assertIs(are_right(web, row, kind, told), True)
        clashing = len(greatest(web, row, kind))
        self.assertGreaterEqual(page_count(told), clashing)
        if kind == "queue":
            self.assertEqual(page_count(told), clashing)
        self.assertEqual(fewest_pages(web, row, kind), told)
        return told

    # Fewer are asked for one page less alone: if some number of pages is not enough, no less is.
    def holds(self, web, row, kind):
        told = self.are_well_formed(web, row, kind)
        if web[1]:
            self.assertFalse(is_enough(web, row, kind, page_count(told) - 1), (web, row, kind, told))

    def test_plain_ones(self):
        self.assertEqual(fewest_pages(CROSSING, SIX, "pile"), (0, 1, 2))
        self.assertEqual(fewest_pages(CROSSING, SIX, "queue"), (0, 0, 0))
        self.assertEqual(fewest_pages(NESTED, SIX, "queue"), (0, 1, 2))
        self.assertEqual(fewest_pages(NESTED, SIX, "pile"), (0, 0, 0))

    def test_numbered_as_they_come_whatever_the_row(self):
        for row in rows_of(6):
            for kind in KINDS:
                self.are_numbered_as_they_come(fewest_pages(NESTED, row, kind))
        self.assertEqual(fewest_pages(NESTED, (2, 1, 0, 5, 4, 3), "queue"), (0, 1, 2))
        self.assertEqual(fewest_pages(CROSSING, (2, 1, 0, 5, 4, 3), "pile"), (0, 1, 2))

    def test_no_tie(self):
        for kind in KINDS:
            for many in (1, 2, 6, 9):
                self.assertEqual(fewest_pages((many, ()), tuple(range(many)), kind), ())

    def test_one_page_is_enough(self):
        for kind in KINDS:
            for row in rows_of(4):
                self.assertEqual(fewest_pages((4, ((1, 2),)), row, kind), (0,))
                self.assertEqual(fewest_pages((4, ((0, 1), (0, 2), (0, 3))), row, kind), (0, 0, 0))
            self.assertEqual(fewest_pages((6, ((0, 1), (2, 3), (4, 5))), SIX, kind), (0, 0, 0))

    def test_more_piles_than_ties_that_cross_each_two(self):
        self.assertEqual(len(greatest(RING, FIVE, "pile")), 2)
        self.assertEqual(page_count(fewest_pages(RING, FIVE, "pile")), 3)
        self.holds(RING, FIVE, "pile")

    def test_pages_that_have_to_be_taken_back(self):
        for web, row, count in PILES_THAT_MISLEAD:
            told = self.are_well_formed(web, row, "pile")
            self.assertEqual(page_count(told), count, (web, row))
            self.are_well_formed(web, row, "queue")
            if count == 3:
                self.assertFalse(is_enough(web, row, "pile", 2))

    def test_all_webs_of_one_to_four_places(self):
        for many in range(1, 5):
            for web in webs_of(many):
                for row in rows_of(many):
                    for kind in KINDS:
                        self.holds(web, row, kind)

    def test_larger_webs(self):
        for kind in KINDS:
            for row in rows_of(5):
                self.holds(RING, row, kind)
            for row in rows_of(5, 7):
                self.holds(full(5), row, kind)
                self.holds((5, full(5)[1][1:9]), row, kind)
            for web in twelve_tie_webs(101):
                for row in rows_of(6, 149):
                    self.holds(web, row, kind)

    def test_twelve_ties(self):
        for web in twelve_tie_webs(20):
            for row in rows_of(6, 83):
                for kind in KINDS:
                    self.are_well_formed(web, row, kind)

    def test_webs_beyond_the_bounds(self):
        for web in webs_beyond():
            for row in (tuple(range(web[0])), tuple(range(1, web[0], 2)) + tuple(range(0, web[0], 2))):
                for kind in KINDS:
                    self.are_well_formed(web, row, kind)
        for row in rows_of(7, 1009):
            for kind in KINDS:
                self.holds((7, full(7)[1][3:15]), row, kind)

    # Known of webs in which each two places are tied: half as many piles as places, rounded up.
    def test_each_two_places_tied(self):
        for many in range(4, 11):
            row = tuple(range(many))[::-1]
            self.assertEqual(page_count(self.are_well_formed(full(many), row, "pile")), (many + 1) // 2)
            self.assertEqual(page_count(self.are_well_formed(full(many), row, "queue")), many // 2)

    # Beside one another: a group that takes three pages, and many that take two, in either order.
    def test_groups_that_do_not_clash(self):
        couples = [((k, k + 2), (k + 1, k + 3)) for k in range(5, 65, 4)]
        ties = sorted(list(RING[1]) + [tie for couple in couples for tie in couple])
        web = (70, tuple(ties))
        for row in (tuple(range(70)), tuple(range(70))[::-1], tuple(range(5, 70)) + FIVE):
            self.assertEqual(page_count(self.are_well_formed(web, row, "pile")), 3)
            self.assertEqual(page_count(self.are_well_formed(web, row, "queue")), 1)


if __name__ == "__main__":
    unittest.main()
