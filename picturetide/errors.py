"""The errors of the program; each keeps its arguments as attributes of their names."""


class TideError(ValueError):
    """What every error of the program is; never raised itself."""


class InvalidPicture(TideError):
    """The value must be a picture, or a whole row of pictures, and is none."""

    def __init__(self, value):
        self.value = value


class InvalidStream(TideError):
    """The value must be a stream, and is none."""

    def __init__(self, value):
        self.value = value


class InvalidPlan(TideError):
    """The value must be a plan, and is none."""

    def __init__(self, value):
        self.value = value


class InvalidTree(TideError):
    """The value must be a tree or a band tree, and is none."""

    def __init__(self, value):
        self.value = value


class InvalidNumber(TideError):
    """The value is not the number of anything that is there."""

    def __init__(self, value):
        self.value = value


class InvalidText(TideError):
    """From its sign at on, the text cannot be read."""

    def __init__(self, text, at):
        self.text = text
        self.at = at


class InvalidLine(TideError):
    """From its sign at on, the line has no known form."""

    def __init__(self, line, at):
        self.line = line
        self.at = at


class InvalidClaim(TideError):
    """The value must be a claim, and is none."""

    def __init__(self, value):
        self.value = value


class Refused(TideError):
    """The claim is not true."""

    def __init__(self, claim):
        self.claim = claim


class NoKey(TideError):
    """The picture of this number is no key picture."""

    def __init__(self, number):
        self.number = number


class TooLong(TideError):
    """What has this number is longer than it may be."""

    def __init__(self, number):
        self.number = number


class UnknownName(TideError):
    """The name has no value of the sort that is asked."""

    def __init__(self, name):
        self.name = name


class NothingToUndo(TideError):
    """There is no line for which the word could be done."""

    def __init__(self, word):
        self.word = word


class Undefined(TideError):
    """There is no such thing as what is asked."""

    def __init__(self, what):
        self.what = what
