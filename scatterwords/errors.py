"""The errors that the package raises, each with what it is about as an attribute."""


class ScatterError(ValueError):
    """The base class of the errors about something that was passed."""

    def __init__(self, message="something that was passed is not valid"):
        # The message is an attribute and not what ValueError keeps: so each error keeps
        # the very argument that it was given, and can be copied.
        self.code = self.__class__.__name__
        self.message = message

    def __str__(self):
        return str(self.message)


class InvalidText(ScatterError):
    """A text has something at a position that cannot stand there, or ends there too early."""

    def __init__(self, position):
        ScatterError.__init__(self, f"the text is not valid at position {position}")
        self.position = position


class TooLarge(ScatterError):
    """Something exceeds a limit."""

    def __init__(self, limit):
        ScatterError.__init__(self, f"more than {limit}")
        self.limit = limit


class InvalidAddress(ScatterError):
    """A tuple is not the address of a place of the word."""

    def __init__(self):
        ScatterError.__init__(self, "no place of the word has this address")


class FreeVariables(ScatterError):
    """A formula has free variables that it must not have."""

    def __init__(self, variables):
        ScatterError.__init__(self, f"the formula has free variables: {variables}")
        self.variables = variables


class InvalidValue(ScatterError):
    """A number is not a value of the table."""

    def __init__(self, number):
        ScatterError.__init__(self, f"the table has no value {number}")
        self.number = number


class InvalidLetters(ScatterError):
    """The text of a rule is too long or has something that is not a letter."""

    def __init__(self, position):
        ScatterError.__init__(self, f"the letters of rule {position} are not valid")
        self.position = position


class InvalidName(ScatterError):
    """A text is not a name."""

    def __init__(self, name):
        ScatterError.__init__(self, f"not a name: {name!r}")
        self.name = name


class DuplicateName(ScatterError):
    """A book has a name already."""

    def __init__(self, name):
        ScatterError.__init__(self, f"the book has this name already: {name!r}")
        self.name = name


class WrongKind(ScatterError):
    """A name stands for a word where it must stand for a formula, or the other way round."""

    def __init__(self, name):
        ScatterError.__init__(self, f"this name is of the other kind: {name!r}")
        self.name = name


class CircularName(ScatterError):
    """A name would use itself."""

    def __init__(self, name):
        ScatterError.__init__(self, f"this name would use itself: {name!r}")
        self.name = name


class NameInUse(ScatterError):
    """A name cannot be dropped because of the name that uses it."""

    def __init__(self, name):
        ScatterError.__init__(self, f"this name uses it: {name!r}")
        self.name = name


class LimitReached(ScatterError):
    """A book has no room, or cannot have so much of it."""

    def __init__(self, limit):
        ScatterError.__init__(self, f"the limit is {limit}")
        self.limit = limit


class InvalidCommand(ScatterError):
    """A tuple is not a command."""

    def __init__(self, position):
        ScatterError.__init__(self, f"command {position} is not valid")
        self.position = position


class Missing(LookupError):
    """The base class of the errors about something that is not there."""

    def __init__(self, message="something is not there"):
        self.code = self.__class__.__name__
        self.message = message

    def __str__(self):
        return str(self.message)


class UnknownName(Missing):
    """A book does not have a name."""

    def __init__(self, name):
        Missing.__init__(self, f"no such name: {name!r}")
        self.name = name


class EmptyHistory(Missing):
    """A book has no step that could be undone or redone."""

    def __init__(self):
        Missing.__init__(self, "there is no such step in the history")
