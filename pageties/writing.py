"""Webs written as texts."""


def tie_word(tie):
    one = tie[0]
    other = tie[1]
    return f"{one}-{other}"


# Joined from words, so that a web without ties ends with its colon and no blank behind it.
def written(web):
    return " ".join([str(web[0]), ":"] + [tie_word(tie) for tie in web[1]])
