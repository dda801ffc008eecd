"""The errors of the package, one class for each kind of failure.

Their texts never show what was passed: that may be too deep or too long to be written.
"""


class FetchError(ValueError):
    """Any argument that is refused."""


class BadHouse(FetchError):
    """What is no HOUSE: number is that of the first wrong item, or None."""

    def __init__(self, number):
        FetchError.__init__(self, "this is no house")
        self.number = number


class BadFetch(FetchError):
    """What is no FETCH: part is a word, number that of the first wrong item in it, or None."""

    def __init__(self, part, number):
        FetchError.__init__(self, "this is no fetch")
        self.part = part
        self.number = number


class BadClient(FetchError):
    """What is no CLIENT: number is that of the first wrong step, or None."""

    def __init__(self, number):
        FetchError.__init__(self, "this is no client")
        self.number = number


class BadText(FetchError):
    """What is no written form: the line and the place in it where it goes wrong."""

    def __init__(self, line, place):
        FetchError.__init__(self, "this is no written form of a fetch")
        self.line = line
        self.place = place


class BadHistory(FetchError):
    """What is no HISTORY by form: given is what was passed."""

    def __init__(self, given):
        FetchError.__init__(self, "this is no history by form")
        self.given = given


class BadGlue(FetchError):
    """What is no GLUE: given is what was passed."""

    def __init__(self, given):
        FetchError.__init__(self, "this is no glue of the fetch")
        self.given = given


class BadNumber(FetchError):
    """What is not one of those that can be asked for: given is what was passed."""

    def __init__(self, given):
        FetchError.__init__(self, "this is not one of those that can be asked for")
        self.given = given


class BadRun(FetchError):
    """What is no RUN: given is what was passed."""

    def __init__(self, given):
        FetchError.__init__(self, "this is no run of the client")
        self.given = given


class BadPaper(FetchError):
    """A PAPER that does not hold: part tells what is wrong with it."""

    def __init__(self, part):
        FetchError.__init__(self, "this paper does not hold")
        self.part = part


class BadQuestion(FetchError):
    """What cannot be asked, told by a text."""


class Parts(RuntimeError):
    """A FETCH that is not ALIKE: history is a PARTING."""

    def __init__(self, history):
        RuntimeError.__init__(self, "these fetches are not alike")
        self.history = history


class Missing(KeyError):
    """A NAME that nothing is kept by: name is what was passed."""

    def __init__(self, name):
        KeyError.__init__(self, "nothing is kept by this name")
        self.name = name
