"""The refusals of the program."""


# One class above all refusals, so that a caller can take any of them by one name.
class PageError(ValueError):
    pass


class NoText(PageError):
    pass


class NoRun(PageError):
    pass
