"""All error classes of the package; each one tells by its attributes what is wrong."""


class KeptError(ValueError):
    """A value that was given cannot be taken."""


class InvalidValue(KeptError):
    """A value is not one of the wanted kind."""

    def __init__(self, value):
        self.value = value


class InvalidSet(KeptError):
    """A set cannot be made of what was given."""

    def __init__(self, position):
        self.position = position


class InvalidMap(KeptError):
    """A map cannot be made of what was given."""

    def __init__(self, position):
        self.position = position


class InvalidOwn(KeptError):
    """An own field cannot be made of what was given."""

    def __init__(self, part, position):
        self.part = part
        self.position = position


class InvalidWrite(KeptError):
    """A write cannot be made of what was given."""

    def __init__(self, part):
        self.part = part


class InvalidProgram(KeptError):
    """A program cannot be made of what was given."""

    def __init__(self, part, key):
        self.part = part
        self.key = key


class InvalidWorld(KeptError):
    """A world cannot be made of what was given."""

    def __init__(self, part, key):
        self.part = part
        self.key = key


class InvalidDocument(KeptError):
    """A value is no document of the world."""

    def __init__(self, key):
        self.key = key


class InvalidEdit(KeptError):
    """A value is no edit of the program."""

    def __init__(self, key):
        self.key = key


class InvalidStep(KeptError):
    """A value is no list of steps of the world."""

    def __init__(self, position):
        self.position = position


class InvalidRow(KeptError):
    """A value is no list of names of programs of the world."""

    def __init__(self, position):
        self.position = position


class InvalidList(KeptError):
    """A source list cannot be made of what was given, or does not suit the world."""

    def __init__(self, position):
        self.position = position


class InvalidPresence(KeptError):
    """A value is no sorted tuple of different fields of the world."""

    def __init__(self, value):
        self.value = value


class InvalidBeginnings(KeptError):
    """Beginnings cannot be made of what was given."""

    def __init__(self, part, position):
        self.part = part
        self.position = position


class NotSettable(KeptError):
    """No value of an own field is settable."""

    def __init__(self, value):
        self.value = value


class NotRemovable(KeptError):
    """An own field is not removable."""

    def __init__(self, value):
        self.value = value


class InvalidWish(KeptError):
    """A value is no list of wishes of the world."""

    def __init__(self, position):
        self.position = position


class InvalidOffer(KeptError):
    """A value is no list of offers, or one of them does not fit."""

    def __init__(self, position):
        self.position = position


class InvalidChoice(KeptError):
    """A value cannot be chosen."""

    def __init__(self, value):
        self.value = value


class InvalidCopies(KeptError):
    """A value is no list of copies that can be joined."""

    def __init__(self, position):
        self.position = position


class InvalidNumber(KeptError):
    """A value is no new number of an edit or a join."""

    def __init__(self, value):
        self.value = value


class InvalidText(KeptError):
    """A value is not the text of what it should tell."""

    def __init__(self, line):
        self.line = line


class InvalidCommand(KeptError):
    """A value is no command of the desk."""

    def __init__(self, value):
        self.value = value


class InvalidName(KeptError):
    """A value is no name."""

    def __init__(self, value):
        self.value = value


class NameTaken(KeptError):
    """A name is that of another copy."""

    def __init__(self, value):
        self.value = value


class NothingToUndo(KeptError):
    """No call is left to take back."""

    def __init__(self):
        """Take no arguments."""


class UnknownProgram(LookupError):
    """A value is not the name of a program of the world."""

    def __init__(self, value):
        self.value = value


class UnknownOwn(LookupError):
    """A value is not the name of an own field of the program."""

    def __init__(self, value):
        self.value = value


class UnknownField(LookupError):
    """A value is no field of the world."""

    def __init__(self, value):
        self.value = value


class UnknownList(LookupError):
    """A value is no list of the graph."""

    def __init__(self, value):
        self.value = value


class UnknownName(LookupError):
    """A value is not the name of a copy of the store."""

    def __init__(self, value):
        self.value = value


class Unlike(RuntimeError):
    """Two things are not of one kind."""

    def __init__(self):
        """Take no arguments."""


class TooMany(ArithmeticError):
    """More would have to be looked at than the limit allows."""

    def __init__(self, what, limit):
        self.what = what
        self.limit = limit
