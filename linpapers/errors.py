"""The errors that the program raises."""


class LinpapersError(ValueError):
    """The base class of all errors that the program raises."""


class NumberError(LinpapersError):
    """A number was to have the bottom 0."""


class NoPoints(LinpapersError):
    """A system has no points, but the question needs one."""


class TextError(LinpapersError):
    """A text of a comparison is wrong at a place, counted from 0."""

    def __init__(self, place, what):
        self.place = place
        self.what = what


class LineError(LinpapersError):
    """A text of a system is wrong at a place of a line, counted from 1."""

    def __init__(self, line, place, what):
        self.line = line
        self.place = place
        self.what = what


class FormulaError(LinpapersError):
    """A text of a formula is wrong at a place, or a search is too long."""

    def __init__(self, place, what):
        self.place = place
        self.what = what


class BenchError(LinpapersError):
    """A bench cannot do what it was told to do."""

    def __init__(self, what):
        self.what = what
