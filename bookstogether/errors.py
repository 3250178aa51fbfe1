"""All errors of the package."""


class BookError(ValueError):
    """The base class of all errors of the package."""


class InvalidName(BookError):
    """A string is not a name."""

    def __init__(self, name):
        self.name = name


class UnknownTable(BookError):
    """The world has no table of this name."""

    def __init__(self, name):
        self.name = name


class UnknownRule(BookError):
    """The world has no rule of this name."""

    def __init__(self, name):
        self.name = name


class UnknownIndex(BookError):
    """The book has no index of this name."""

    def __init__(self, name):
        self.name = name


class UnknownSummary(BookError):
    """The book has no summary of this name."""

    def __init__(self, name):
        self.name = name


class UnknownNumber(BookError):
    """Nothing stands under this number."""

    def __init__(self, number):
        self.number = number


class InvalidBook(BookError):
    """The book of this part is not valid, or does not fit the world."""

    def __init__(self, part):
        self.part = part


class InvalidTurn(BookError):
    """The turn, step or event at this index is not valid."""

    def __init__(self, at):
        self.at = at


class ScriptRefused(BookError):
    """The statement at this index of a script was refused."""

    def __init__(self, at):
        self.at = at


class InvalidText(BookError):
    """The line of this number cannot be read."""

    def __init__(self, line):
        self.line = line


class InvalidRow(BookError):
    """A tuple is not a row."""


class InvalidCondition(BookError):
    """A tuple is not a condition, or not one that is allowed here."""


class InvalidWorld(BookError):
    """Tables and rules do not make a world."""


class InvalidStatement(BookError):
    """A tuple is not a statement, or not one that is expected here."""


class InvalidStore(BookError):
    """Rows cannot stand together, or are not those that are expected."""


class Refusal(BookError):
    """A statement is refused; the field `told` of each refusal is its tell."""


class ZeroDivisor(Refusal):
    """A quotient was to be evaluated by 0."""

    def __init__(self):
        self.told = ("refused", "zero")


class HiddenRow(Refusal):
    """A row would not be seen by the one who stores it."""

    def __init__(self):
        self.told = ("refused", "hidden")


class Ambiguous(Refusal):
    """An upsert finds more than one row."""

    def __init__(self):
        self.told = ("refused", "ambiguous")


class Duplicate(Refusal):
    """A row clashes with another one by the rule of this name."""

    def __init__(self, rule):
        self.rule = rule
        self.told = ("refused", "duplicate", rule)
