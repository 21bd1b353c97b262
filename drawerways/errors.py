"""Refusals: errors with fields, in families under one base."""


class DrawerError(ValueError):
    """The base of all refusals."""


class PaperError(DrawerError):
    """The family of refusals of papers and orders."""


class RunError(DrawerError):
    """The family of refusals of hands and steps."""


class TextError(DrawerError):
    """The family of refusals of texts."""


class NoPaper(PaperError):
    """A thing is no paper: word tells why, at where."""

    def __init__(self, word, at):
        self.word = word
        self.at = at


class NoOrder(PaperError):
    """There is no order: paper shows why."""

    def __init__(self, paper):
        self.paper = paper


class NoHand(RunError):
    """There is no such hand."""

    def __init__(self, hand):
        self.hand = hand


class NoStep(RunError):
    """It can't be told or done: word tells why."""

    def __init__(self, word):
        self.word = word


class NoBack(RunError):
    """So many events can't be taken back."""

    def __init__(self, times):
        self.times = times


class NoText(TextError):
    """A text writes nothing: line and word tell where."""

    def __init__(self, line, word):
        self.line = line
        self.word = word


class NoLine(TextError):
    """A row is of no form."""

    def __init__(self, line):
        self.line = line
