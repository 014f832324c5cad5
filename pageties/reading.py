"""Webs read from their texts."""

from pageties.errors import NoText
from pageties.webs import is_web

DIGITS = "0123456789"


# Every number of a web's writing is one digit: longer ones are no web's, or have a zero in front.
def number_of(word):
    if len(word) != 1 or word not in DIGITS:
        raise NoText(f"no number of a web: {word!r}")
    return int(word)


def tie_of(word):
    parts = word.split("-")
    if len(parts) != 2:
        raise NoText(f"no tie: {word!r}")
    return (number_of(parts[0]), number_of(parts[1]))


# Split at each single blank, so that a blank too many leaves an empty word, which is refused.
def read(text):
    words = text.split(" ")
    if len(words) < 2 or words[1] != ":":
        raise NoText(f"no colon as the second word: {text!r}")
    web = (number_of(words[0]), tuple([tie_of(word) for word in words[2:]]))
    if not is_web(web):
        raise NoText(f"no web: {text!r}")
    return web
