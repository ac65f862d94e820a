"""The refusals. Each keeps the very things that it is made of and looks at none of them."""


# No class here calls its base's making: Python itself keeps what an error is made of,
# and a text made of the fields would have to look at them.


class WideError(ValueError):
    pass


class NoPaper(WideError):
    def __init__(self, word, at):
        self.word = word
        self.at = at


class NoOutline(WideError):
    def __init__(self, word, at):
        self.word = word
        self.at = at


class NoJoin(WideError):
    def __init__(self, word):
        self.word = word


class TooMany(WideError):
    def __init__(self, word):
        self.word = word


class NoText(WideError):
    def __init__(self, word):
        self.word = word


class NoRow(WideError):
    pass
