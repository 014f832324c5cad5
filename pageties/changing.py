"""Rows and webs changed, and webs of some plain forms."""

from pageties.webs import rising_pair


def moved(row, by):
    first = by % len(row)
    return row[first:] + row[:first]


def turned(row):
    return row[::-1]


def renamed(web, names):
    return (web[0], tuple(sorted([rising_pair(names[one], names[other]) for one, other in web[1]])))


def with_tie(web, one, other):
    return (web[0], tuple(sorted(set(web[1] + (rising_pair(one, other),)))))


def without_tie(web, tie):
    return (web[0], web[1][:tie] + web[1][tie + 1:])


def full(many):
    ties = []
    for one in range(many):
        ties.extend([(one, other) for other in range(one + 1, many)])
    return (many, tuple(ties))


def round_web(many):
    return (many, tuple(sorted([rising_pair(place, (place + 1) % many) for place in range(many)])))


def halves(one, other):
    ties = []
    for place in range(one):
        ties.extend([(place, one + number) for number in range(other)])
    return (one + other, tuple(ties))
