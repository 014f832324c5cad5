"""Webs and rows: telling of any thing whether it is one."""

MOST_PLACES = 6
MOST_TIES = 12


# Python counts True and False among the ints; here they are no whole numbers.
def is_whole(thing):
    return isinstance(thing, int) and not isinstance(thing, bool)


def is_pair(thing):
    return isinstance(thing, tuple) and len(thing) == 2


def is_place(many, thing):
    return is_whole(thing) and 0 <= thing < many


def is_tie(many, thing):
    if not is_pair(thing):
        return False
    return is_place(many, thing[0]) and is_place(many, thing[1]) and thing[0] < thing[1]


def are_rising(things):
    return all([things[k] < things[k + 1] for k in range(len(things) - 1)])


def rising_pair(one, other):
    return (min(one, other), max(one, other))


# What rises can be asked only behind the kinds: other things may not be compared at all.
def are_ties(many, thing):
    if not isinstance(thing, tuple) or len(thing) > MOST_TIES:
        return False
    return all([is_tie(many, tie) for tie in thing]) and are_rising(thing)


def is_web(thing):
    if not is_pair(thing) or not is_whole(thing[0]):
        return False
    return 1 <= thing[0] <= MOST_PLACES and are_ties(thing[0], thing[1])


# The web's own bounds are not asked here: rows of webs with more places are rows too.
def is_row(web, thing):
    if not isinstance(thing, tuple) or len(thing) != web[0]:
        return False
    return all([is_whole(place) for place in thing]) and sorted(thing) == list(range(web[0]))
