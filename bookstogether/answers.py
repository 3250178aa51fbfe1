"""The tells of questions, and the row that an upsert makes."""

from bookstogether.rows import altered, sorted_rows


def answer(question, found):
    """Return the tell of a question that has found these rows."""
    word = question[0]
    if word == "rows":
        return (word, tuple(sorted_rows(found)))
    if word == "count":
        return (word, len(found))
    column = question[3]
    known = [row[column] for row in found if row[column] is not None]
    if word == "sum":
        return (word, sum(known))
    return (word, max(known, default=None))


def upserted(row, asked, sets):
    """Return the row with each column of `sets` set to its source."""
    new = row
    for column, source in sets:
        new = altered(new, column, asked[column] if source == "new" else source)
    return new
