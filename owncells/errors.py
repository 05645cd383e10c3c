"""The exceptions of this package: what is refused, and what is too great."""


class NestError(ValueError):
    """Any argument that is refused."""


class BadProgram(NestError):
    """No PROGRAM: place leads to the first thing in it that is wrong."""

    def __init__(self, place):
        self.place = place


class BadLot(NestError):
    """No LOT of the PROGRAM."""

    def __init__(self, value):
        self.value = value


class BadRound(NestError):
    """No ROUND of the PROGRAM."""

    def __init__(self, value):
        self.value = value


class BadNumber(NestError):
    """No number that can stand here."""

    def __init__(self, value):
        self.value = value


class BadBox(NestError):
    """No box of the PROGRAM."""

    def __init__(self, value):
        self.value = value


class BadForm(NestError):
    """No FORM of the PROGRAM."""

    def __init__(self, value):
        self.value = value


class BadDealing(NestError):
    """No DEALING: place leads to the first thing in it that is wrong."""

    def __init__(self, place):
        self.place = place


class BadPaper(NestError):
    """A PAPER that does not hold: word tells what of it."""

    def __init__(self, word):
        self.word = word


class BadPlan(NestError):
    """No PLAN: place leads to the first thing in it that is wrong."""

    def __init__(self, place):
        self.place = place


class BadChoice(NestError):
    """No CHOICE of the PLAN."""

    def __init__(self, value):
        self.value = value


class BadRow(NestError):
    """No ROW of the PROGRAM."""

    def __init__(self, value):
        self.value = value


class BadSeen(NestError):
    """No SEEN: place leads to the first thing in it that is wrong."""

    def __init__(self, place):
        self.place = place


class BadText(NestError):
    """A text with a word that cannot stand there: its line, and the word in it."""

    def __init__(self, line, word):
        self.line = line
        self.word = word


class BadReference(NestError):
    """No reference: place leads to the first thing that is wrong."""

    def __init__(self, place):
        self.place = place


class NothingLeft(NestError):
    """There is no deed left that could be taken back."""

    def __init__(self):
        pass


class TooGreat(OverflowError):
    """More is asked for than the most that is done."""

    def __init__(self, most):
        self.most = most
