"""Summaries that answer a question together."""

from bookstogether.errors import UnknownSummary, ZeroDivisor
from bookstogether.rows import all_rows
from bookstogether.summarybooks import greatest_known, share_at

SIGNED = ("count", "sum")

# What stands for the share of a row that refuses the question: no shares come to it.
REFUSED = "refused"


def choices(names, *, signs=(1, -1)):
    """Yield all choices of names with these signs, shorter ones first."""
    # Each choice together with the names that may still follow.
    level = [((), list(names))]
    while len(level) > 0:
        for choice, _ in level:
            yield choice
        level = [
            (choice + ((name, sign),), later[at + 1:])
            for choice, later in level
            for at, name in enumerate(later)
            for sign in signs
        ]


def _usable(summaries, question):
    """Return the usable summaries for a question, in order."""
    kinds = ("greatest",) if question[0] == "greatest" else SIGNED
    return [summary for summary in summaries if summary.table == question[1] and summary.kind in kinds]


def _asked_share(question, row):
    """Return the share of a row in a question, or REFUSED."""
    try:
        return share_at(question, row)
    except ZeroDivisor:
        return REFUSED


class Shares:
    """The shares of all rows in a question and in the usable summaries."""

    def __init__(self, summaries, question):
        self.kind = question[0]
        self.asked = {row: _asked_share(question, row) for row in all_rows()}
        usable = _usable(summaries, question)
        self.names = [summary.name for summary in usable]
        self.kept = {summary.name: {row: summary.share(row) for row in all_rows()} for summary in usable}

    def together(self, pairs, row):
        """Return what the shares of a row in the chosen summaries come to."""
        if self.kind == "greatest":
            return greatest_known([self.kept[name][row] for name, _ in pairs])
        return sum([self.kept[name][row] * sign for name, sign in pairs])

    def misfit(self, pairs):
        """Return the first row that a choice does not fit, or None."""
        for row, share in self.asked.items():
            if share == REFUSED or share != self.together(pairs, row):
                return row
        return None

    def first_fitting(self, signs):
        """Return the first choice of the usable summaries with these signs that fits all rows, or None."""
        for pairs in choices(self.names, signs=signs):
            if self.misfit(pairs) is None:
                return pairs
        return None


def misfit(summaries, pairs, question):
    """Return the first row that a choice of usable summaries does not fit, or None."""
    shares = Shares(summaries, question)
    for name, _ in pairs:
        if name not in shares.names:
            raise UnknownSummary(name)
    return shares.misfit(pairs)


def combination(summaries, question):
    """Return the first choice of summaries that together answer a count or a sum, or None."""
    if question[0] not in SIGNED:
        return None
    return Shares(summaries, question).first_fitting((1, -1))


def cover(summaries, question):
    """Return the names of the first summaries that together answer a greatest question, or None."""
    if question[0] != "greatest":
        return None
    pairs = Shares(summaries, question).first_fitting((1,))
    return None if pairs is None else tuple([name for name, _ in pairs])
