"""The errors that the package raises, all directly beneath SolidError."""


class SolidError(ValueError):
    """What every error of the package is."""


class NotNumber(SolidError):
    """A value that is no number of the kind asked for, or by which nothing is divided."""

    def __init__(self, value):
        self.value = value


class NotRow(SolidError):
    """No row, plane, direction, way or flat; place tells what is wrong with it."""

    def __init__(self, place):
        self.place = place


class NotPoint(SolidError):
    """No point; place tells what is wrong with it."""

    def __init__(self, place):
        self.place = place


class NotFormula(SolidError):
    """No formula; path leads to the first thing that is wrong in it."""

    def __init__(self, path):
        self.path = path


class NotText(SolidError):
    """No text of the kind asked for; line and word tell where it goes wrong."""

    def __init__(self, line, word):
        self.line = line
        self.word = word


class NotForm(SolidError):
    """No form, or nothing that belongs to one; word tells what is wrong."""

    def __init__(self, word):
        self.word = word


class NotSystem(SolidError):
    """No system; number tells the first pair that is wrong, None the whole."""

    def __init__(self, number):
        self.number = number


class NotMap(SolidError):
    """No table by which a set is drawn."""


class NotMesh(SolidError):
    """No mesh; word tells what is wrong with it."""

    def __init__(self, word):
        self.word = word


class NotPaper(SolidError):
    """A paper that does not show what it claims; word tells which one."""

    def __init__(self, word):
        self.word = word


class NotName(SolidError):
    """No name, or none that may stand there."""

    def __init__(self, name):
        self.name = name


class NotHistory(SolidError):
    """No history; place leads to the first thing that is wrong in it."""

    def __init__(self, place):
        self.place = place


class Unlike(SolidError):
    """Things that do not go together."""


class Empty(SolidError):
    """Nothing is there to be returned."""


class Endless(SolidError):
    """What is asked for has no bounds."""


class Flat(SolidError):
    """What should span something does not."""


class TooGreat(SolidError):
    """More than most of something."""

    def __init__(self, most):
        self.most = most
