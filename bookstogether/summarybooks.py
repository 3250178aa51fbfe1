"""Summaries and their book."""

from bookstogether.booklines import check_option, read_options, write_options
from bookstogether.conditions import may_stand, truth
from bookstogether.errors import InvalidBook, UnknownSummary
from bookstogether.names import is_name
from bookstogether.rows import COLUMNS
from bookstogether.words import LineReader, write_condition

PART = "summaries"
KINDS = ("count", "sum", "greatest")
ALIKE = ("shown", "question")
UNDO = ("difference", "image")
GREATEST = ("write", "question", "stays")


def share_at(question, row):
    """Return the share of a row, or of None, in a question of a kind of summaries."""
    kind = question[0]
    nothing = None if kind == "greatest" else 0
    if row is None or not truth(question[2], row):
        return nothing
    if kind == "count":
        return 1
    known = row[question[3]]
    return nothing if known is None else known


def greatest_known(shares):
    """Return the greatest number among numbers and Nones, or None."""
    return max([share for share in shares if share is not None], default=None)


class Summary:
    """A count, a sum or a greatest value of the rows of a table."""

    def __init__(self, name, table, kind, column, condition):
        check_option(PART, kind, KINDS)
        self.name = name
        self.table = table
        self.kind = kind
        self.column = column
        self.condition = condition

    def question(self):
        """Return the question that the summary answers by itself."""
        if self.kind == "count":
            return ("count", self.table, self.condition, self.name)
        return (self.kind, self.table, self.condition, self.column, self.name)

    def share(self, row):
        """Return the share of a row, or of None, in the summary."""
        return share_at(self.question(), row)

    def due_amount(self, rows):
        """Return the value that is due for these rows."""
        shares = [self.share(row) for row in rows]
        return greatest_known(shares) if self.kind == "greatest" else sum(shares)


class SummaryBook:
    """Summaries, the indexes at whose edges greatest values stand, and how the kept values follow the rows."""

    MOST = 4

    def __init__(self, *summaries, edges=(), alike="shown", undo="difference", greatest="write"):
        check_option(PART, alike, ALIKE)
        check_option(PART, undo, UNDO)
        check_option(PART, greatest, GREATEST)
        named = [summary for summary, _ in edges]
        if len(summaries) > SummaryBook.MOST or len(set(named)) < len(named):
            raise InvalidBook(PART)
        self.summaries = summaries
        self.edges = tuple(edges)
        self.alike = alike
        self.undo = undo
        self.greatest = greatest

    def summary(self, name):
        """Return the summary of this name."""
        for summary in self.summaries:
            if summary.name == name:
                return summary
        raise UnknownSummary(name)

    def of_table(self, table):
        """Return the tuple of the summaries of a table, in order."""
        return tuple([summary for summary in self.summaries if summary.table == table])

    def check(self, world):
        """Raise InvalidBook if the book does not fit the world."""
        names = [summary.name for summary in self.summaries]
        if len(set(names)) < len(names) or not all([_fits(world, summary) for summary in self.summaries]):
            raise InvalidBook(PART)
        if not all([summary in names and is_name(index) for summary, index in self.edges]):
            raise InvalidBook(PART)

    def lines(self):
        """Return the lines that write the book."""
        options = [("alike", self.alike), ("undo", self.undo), ("greatest", self.greatest)]
        summaries = [_write_summary(summary) for summary in self.summaries]
        edges = [f"edge {summary} {index}" for summary, index in self.edges]
        return [write_options(PART, options)] + summaries + edges

    @classmethod
    def from_lines(cls, lines):
        """Return the book that is written in pairs of a line number and a line."""
        options = (("alike", ALIKE), ("undo", UNDO), ("greatest", GREATEST))
        alike, undo, greatest = read_options(PART, options, lines)
        summaries = []
        edges = []
        for line, text in lines[1:]:
            reader = LineReader(line, text)
            # Behind an edge there is no line for a summary.
            if reader.take_one_of(("edge",) if edges else ("summary", "edge")) == "summary":
                summaries.append(_take_summary(reader))
            else:
                edges.append(_take_edge(reader))
            reader.end()
        return cls(*summaries, edges=edges, alike=alike, undo=undo, greatest=greatest)


def _fits(world, summary):
    """Tell whether a summary alone fits the world."""
    if not is_name(summary.name) or summary.table not in world or summary.column not in COLUMNS:
        return False
    return may_stand(summary.condition)


def _write_summary(summary):
    """Return the line of a summary."""
    words = ["summary", summary.name, summary.table, summary.kind, str(summary.column)]
    return " ".join(words + [write_condition(summary.condition)])


def _take_summary(reader):
    """Take the parts of a summary."""
    name = reader.take_name()
    table = reader.take_name()
    kind = reader.take_one_of(KINDS)
    column = reader.take_number()
    return Summary(name, table, kind, column, reader.take_condition())


def _take_edge(reader):
    """Take the parts of an edge."""
    summary = reader.take_name()
    index = reader.take_name()
    return (summary, index)
