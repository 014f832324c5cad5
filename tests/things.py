"""What several tests need: webs, rows, odd things, and how ties lie by the document's own words."""

import itertools

KINDS = ("pile", "queue")

# Along the row: "a" for a place of the one tie, "b" for a place of the other.
LYING = {
    "abab": "cross", "baba": "cross",
    "abba": "within", "baab": "within",
    "aabb": "apart", "bbaa": "apart",
}

CLASHING = {"pile": "cross", "queue": "within"}


def full(many):
    return (many, tuple(itertools.combinations(range(many), 2)))


def webs_of(many):
    pairs = full(many)[1]
    return [
        (many, ties)
        for count in range(len(pairs) + 1)
        for ties in itertools.combinations(pairs, count)
    ]


def rows_of(many, step=1):
    return list(itertools.islice(itertools.permutations(range(many)), 0, None, step))


def twelve_tie_webs(step):
    choices = itertools.combinations(full(6)[1], 12)
    return [(6, ties) for ties in itertools.islice(choices, 0, None, step)]


# Webs with more places, more ties, or more of both than a web that is handed to is_web may have.
def webs_beyond():
    return [
        (7, ((0, 3), (1, 4), (2, 5), (3, 6))),
        full(6),
        (7, full(7)[1][::2]),
        full(7),
        (8, full(8)[1][1::2]),
        (9, tuple((k, 8 - k) for k in range(4))),
        (10, tuple((k, k + 5) for k in range(5))),
    ]


def lie(web, row, one, other):
    a = web[1][one]
    b = web[1][other]
    if set(a) & set(b):
        return "meet"
    return LYING["".join("a" if place in a else "b" for place in row if place in a + b)]


def do_clash(web, row, kind, one, other):
    return lie(web, row, one, other) == CLASHING[kind]


def clashing_pairs(web, row, kind):
    pairs = itertools.combinations(range(len(web[1])), 2)
    return tuple(pair for pair in pairs if do_clash(web, row, kind, *pair))


def keeps_apart(pairs, pages):
    return all(pages[one] != pages[other] for one, other in pairs)


# Is there a way to lay all ties on so many pages? Each way is gone through.
def is_enough(web, row, kind, many):
    pairs = clashing_pairs(web, row, kind)
    return any(keeps_apart(pairs, pages) for pages in itertools.product(range(many), repeat=len(web[1])))


def nested(depth, inner, as_list):
    thing = inner
    for _ in range(depth):
        thing = [thing] if as_list else (thing,)
    return thing


def deep_things():
    inners = (0, 1, True, None, "0", (), [], (2, ((0, 1),)))
    return [
        nested(depth, inner, as_list)
        for depth in (1, 2, 3, 29, 30, 31, 40)
        for inner in inners
        for as_list in (False, True)
    ]


# What is told holds tuples, texts, whole numbers, truths and None, nothing else.
def is_plainly_made(thing):
    if type(thing) is tuple:
        return all(is_plainly_made(part) for part in thing)
    return type(thing) in (str, int, bool, type(None))


def other_things(thing):
    if type(thing) is int:
        return [thing + 1, thing - 1, bool(thing), -1 - thing, str(thing), None, (thing,), [thing]]
    if type(thing) is str:
        return ["tie", "clash", thing + "s", thing[:-1], None, 0, (thing,)]
    shifted = [thing[k:] + thing[:k] for k in range(1, len(thing))]
    return [list(thing), thing[::-1], thing[:-1], thing[1:], thing + thing[:1], (thing,), (), None] + shifted


# The thing with one of its parts, itself among them, changed in each of some ways.
def changed_somewhere(thing):
    yield from other_things(thing)
    if type(thing) is tuple:
        for k, part in enumerate(thing):
            for other in changed_somewhere(part):
                yield thing[:k] + (other,) + thing[k + 1:]


PLAIN_THINGS = [
    0, 1, 2, 6, -1, 10 ** 50, -(10 ** 50), True, False, None,
    "", "1", "12", "1 :", "3 : 0-1 0-2", "(1, ())", "pile", "~",
    [], [1, ()], [1, []], [[]], (), (1,), (1, (), ()), (None, None), ("", ""),
]
