"""The errors of this package."""


class EndError(ValueError):
    """What all errors of this package are; raised nowhere itself."""


class NoAnswer(EndError):
    """No answer fits the call of a given function ahead of which place calls came."""

    def __init__(self, place):
        self.place = place


class NoCommand(EndError):
    """The line is no command of the desk."""

    def __init__(self, line):
        self.line = line


class NoEnding(EndError):
    """No right program begins with the row."""


class NoTree(EndError):
    """No row of the grammar begins with the words up to the index."""

    def __init__(self, index):
        self.index = index


class NoWord(EndError):
    """At the place of the text no word begins."""

    def __init__(self, place):
        self.place = place


class Nothing(EndError):
    """There is nothing to undo."""


class TooLong(EndError):
    """A run takes more than most steps."""

    def __init__(self, most):
        self.most = most


class TooMany(EndError):
    """A lot would have more than most members."""

    def __init__(self, most):
        self.most = most


class Wrong(EndError):
    """The argument at the place is not as described."""

    def __init__(self, place):
        self.place = place
