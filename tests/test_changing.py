"""Rows and webs changed, and webs of some plain forms: [7.1], [7.2]."""

import itertools
import unittest

from pageties.changing import full, halves, moved, renamed, round_web, turned, with_tie, without_tie
from pageties.webs import is_row, is_web
from tests.things import is_plainly_made, rows_of, webs_beyond, webs_of

WEB = (4, ((0, 1), (0, 3), (2, 3)))


def all_pairs(many):
    return [(one, other) for one in range(many) for other in range(many) if one < other]


class Changes(unittest.TestCase):
    def is_right_web(self, web):
        many, ties = web
        self.assertTrue(is_plainly_made(web), web)
        self.assertIs(type(web), tuple)
        self.assertIs(type(ties), tuple)
        self.assertEqual(list(ties), sorted(set(ties)), web)
        for one, other in ties:
            self.assertTrue(0 <= one < other < many, web)

    def holds_ties(self, web, many, pairs):
        self.is_right_web(web)
        self.assertEqual(web[0], many)
        self.assertEqual({frozenset(tie) for tie in web[1]}, {frozenset(pair) for pair in pairs}, web)


class Moved(unittest.TestCase):
    def test_plain_ones(self):
        self.assertEqual(moved((2, 0, 1), 0), (2, 0, 1))
        self.assertEqual(moved((2, 0, 1), 1), (0, 1, 2))
        self.assertEqual(moved((2, 0, 1), 2), (1, 2, 0))
        self.assertEqual(moved((0, 1, 2, 3, 4, 5), 2), (2, 3, 4, 5, 0, 1))

    def test_as_many_as_there_are_places(self):
        self.assertEqual(moved((2, 0, 1), 3), (2, 0, 1))
        self.assertEqual(moved((2, 0, 1), -3), (2, 0, 1))
        self.assertEqual(moved((2, 0, 1), 4), (0, 1, 2))

    def test_below_0(self):
        self.assertEqual(moved((2, 0, 1), -1), (1, 2, 0))
        self.assertEqual(moved((2, 0, 1), -2), (0, 1, 2))
        self.assertEqual(moved((2, 0, 1), -4), (1, 2, 0))
        self.assertEqual(moved((3, 1, 0, 2), -1), (2, 3, 1, 0))

    def test_far_beyond(self):
        self.assertEqual(moved((2, 0, 1), 3 * 10 ** 50), (2, 0, 1))
        self.assertEqual(moved((2, 0, 1), 3 * 10 ** 50 + 1), (0, 1, 2))
        self.assertEqual(moved((2, 0, 1), -(3 * 10 ** 50) + 2), (1, 2, 0))
        self.assertEqual(moved((2, 0, 1), -(3 * 10 ** 50) - 1), (1, 2, 0))

    def test_one_place(self):
        for by in (0, 1, -1, 2, 7, -7, 10 ** 50):
            self.assertEqual(moved((0,), by), (0,))

    def test_all_rows_by_any_number(self):
        for many in range(1, 6):
            for row in rows_of(many):
                for by in range(-2 * many - 1, 2 * many + 2):
                    told = moved(row, by)
                    self.assertIs(type(told), tuple)
                    self.assertEqual(told, tuple(row[(by + k) % many] for k in range(many)))
                    self.assertIs(is_row((many, ()), told), True)
                    self.assertEqual(moved(told, -by), row)

    def test_long_rows(self):
        self.assertEqual(moved(tuple(range(40)), -1), (39,) + tuple(range(39)))


class Turned(unittest.TestCase):
    def test_plain_ones(self):
        self.assertEqual(turned((0,)), (0,))
        self.assertEqual(turned((0, 1)), (1, 0))
        self.assertEqual(turned((2, 0, 1)), (1, 0, 2))
        self.assertEqual(turned(tuple(range(40))), tuple(range(39, -1, -1)))

    def test_all_rows(self):
        for many in range(1, 7):
            for row in rows_of(many, 2):
                told = turned(row)
                self.assertIs(type(told), tuple)
                self.assertEqual([told[many - 1 - k] for k in range(many)], list(row))
                self.assertEqual(turned(told), row)


class Renamed(Changes):
    def test_plain_ones(self):
        self.assertEqual(renamed(WEB, (0, 1, 2, 3)), WEB)
        self.assertEqual(renamed(WEB, (3, 2, 1, 0)), (4, ((0, 1), (0, 3), (2, 3))))
        self.assertEqual(renamed(WEB, (1, 3, 0, 2)), (4, ((0, 2), (1, 2), (1, 3))))
        self.assertEqual(renamed(WEB, (1, 0, 2, 3)), (4, ((0, 1), (1, 3), (2, 3))))
        self.assertEqual(renamed((3, ((0, 1), (1, 2))), (2, 0, 1)), (3, ((0, 1), (0, 2))))

    def test_no_ties_and_one_place(self):
        self.assertEqual(renamed((1, ()), (0,)), (1, ()))
        self.assertEqual(renamed((3, ()), (2, 0, 1)), (3, ()))
        self.assertEqual(renamed((2, ((0, 1),)), (1, 0)), (2, ((0, 1),)))

    def test_all_small_webs(self):
        for many in range(1, 5):
            for web in webs_of(many):
                for names in rows_of(many):
                    told = renamed(web, names)
                    self.holds_ties(told, many, [(names[one], names[other]) for one, other in web[1]])
                    self.assertIs(is_web(told), True)
                    back = tuple(names.index(place) for place in range(many))
                    self.assertEqual(renamed(told, back), web)

    def test_webs_beyond_the_bounds(self):
        for web in webs_beyond():
            names = tuple(range(1, web[0], 2)) + tuple(range(0, web[0], 2))
            self.holds_ties(renamed(web, names), web[0], [(names[one], names[other]) for one, other in web[1]])


class WithTie(Changes):
    def test_plain_ones(self):
        self.assertEqual(with_tie(WEB, 0, 2), (4, ((0, 1), (0, 2), (0, 3), (2, 3))))
        self.assertEqual(with_tie(WEB, 2, 0), (4, ((0, 1), (0, 2), (0, 3), (2, 3))))
        self.assertEqual(with_tie(WEB, 3, 1), (4, ((0, 1), (0, 3), (1, 3), (2, 3))))
        self.assertEqual(with_tie((4, ((1, 2),)), 0, 1), (4, ((0, 1), (1, 2))))
        self.assertEqual(with_tie((4, ((1, 2),)), 3, 2), (4, ((1, 2), (2, 3))))
        self.assertEqual(with_tie((2, ()), 1, 0), (2, ((0, 1),)))

    def test_a_tie_that_the_web_has(self):
        for one, other in WEB[1]:
            self.assertEqual(with_tie(WEB, one, other), WEB)
            self.assertEqual(with_tie(WEB, other, one), WEB)

    def test_all_small_webs(self):
        for many in range(2, 5):
            for web in webs_of(many):
                for one, other in itertools.permutations(range(many), 2):
                    self.holds_ties(with_tie(web, one, other), many, web[1] + ((one, other),))

    def test_beyond_twelve_ties(self):
        web = (6, tuple(all_pairs(6)[:12]))
        self.holds_ties(with_tie(web, 5, 4), 6, web[1] + ((4, 5),))
        for web in webs_beyond():
            self.holds_ties(with_tie(web, web[0] - 1, 0), web[0], web[1] + ((0, web[0] - 1),))


class WithoutTie(Changes):
    def test_plain_ones(self):
        self.assertEqual(without_tie(WEB, 0), (4, ((0, 3), (2, 3))))
        self.assertEqual(without_tie(WEB, 1), (4, ((0, 1), (2, 3))))
        self.assertEqual(without_tie(WEB, 2), (4, ((0, 1), (0, 3))))
        self.assertEqual(without_tie((2, ((0, 1),)), 0), (2, ()))

    def test_all_small_webs(self):
        for many in range(2, 5):
            for web in webs_of(many):
                for tie, pair in enumerate(web[1]):
                    told = without_tie(web, tie)
                    self.holds_ties(told, many, [other for other in web[1] if other != pair])
                    self.assertEqual(with_tie(told, *pair), web)

    def test_webs_beyond_the_bounds(self):
        for web in webs_beyond():
            for tie, pair in enumerate(web[1]):
                self.holds_ties(without_tie(web, tie), web[0], [other for other in web[1] if other != pair])


class Full(Changes):
    def test_plain_ones(self):
        self.assertEqual(full(1), (1, ()))
        self.assertEqual(full(2), (2, ((0, 1),)))
        self.assertEqual(full(3), (3, ((0, 1), (0, 2), (1, 2))))
        self.assertEqual(full(4), (4, ((0, 1), (0, 2), (0, 3), (1, 2), (1, 3), (2, 3))))

    def test_one_to_ten_places(self):
        for many in range(1, 11):
            self.holds_ties(full(many), many, all_pairs(many))
            self.assertEqual(len(full(many)[1]), many * (many - 1) // 2)


class RoundWeb(Changes):
    def test_plain_ones(self):
        self.assertEqual(round_web(3), (3, ((0, 1), (0, 2), (1, 2))))
        self.assertEqual(round_web(4), (4, ((0, 1), (0, 3), (1, 2), (2, 3))))
        self.assertEqual(round_web(6), (6, ((0, 1), (0, 5), (1, 2), (2, 3), (3, 4), (4, 5))))

    def test_three_to_ten_places(self):
        for many in range(3, 11):
            self.holds_ties(round_web(many), many, [(k, (k + 1) % many) for k in range(many)])
            self.assertEqual(len(round_web(many)[1]), many)


class Halves(Changes):
    def test_plain_ones(self):
        self.assertEqual(halves(1, 1), (2, ((0, 1),)))
        self.assertEqual(halves(1, 2), (3, ((0, 1), (0, 2))))
        self.assertEqual(halves(2, 1), (3, ((0, 2), (1, 2))))
        self.assertEqual(halves(2, 3), (5, ((0, 2), (0, 3), (0, 4), (1, 2), (1, 3), (1, 4))))

    def test_all_small_pairs(self):
        for one in range(1, 6):
            for other in range(1, 6):
                many = one + other
                pairs = [(a, b) for a, b in all_pairs(many) if a < one <= b]
                self.holds_ties(halves(one, other), many, pairs)
                self.assertEqual(len(halves(one, other)[1]), one * other)


if __name__ == "__main__":
    unittest.main()
