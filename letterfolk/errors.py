"""The refusals: each keeps the very things that it is made of, and looks at none of them."""


class FolkError(ValueError):
    """The base of all refusals."""


class PaperError(FolkError):
    """The family of refusals of papers, traces and code."""


class RunError(FolkError):
    """The family of refusals of what folk, houses and villages are asked to do."""


class TextError(FolkError):
    """The family of refusals of texts and rows."""


class NoPaper(PaperError):
    """A thing is not the paper that it should be."""

    def __init__(self, word, at):
        self.word = word
        self.at = at


class NoTrace(PaperError):
    """A thing is not the trace of a run."""

    def __init__(self, word, at):
        self.word = word
        self.at = at


class NoCode(PaperError):
    """A thing is not code, or code has no behaviour of a name."""

    def __init__(self, word, at):
        self.word = word
        self.at = at


class NoFolk(RunError):
    """Nobody lives there."""

    def __init__(self, address):
        self.address = address


class NoStep(RunError):
    """A step cannot be done."""

    def __init__(self, word):
        self.word = word


class NoBack(RunError):
    """So many steps cannot be undone."""

    def __init__(self, times):
        self.times = times


class NoText(TextError):
    """A text writes nothing: in this line, at this word."""

    def __init__(self, line, word):
        self.line = line
        self.word = word


class NoLine(TextError):
    """A row that a desk is told has no form."""

    def __init__(self, line):
        self.line = line
