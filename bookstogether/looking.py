"""How many looks are told, and whether they keep a claim."""


def look_count(book, looked, found):
    """Return the number of looks that is told for so many looked at and found, or None."""
    if not book.tells:
        return None
    return found if book.counts == "found" else looked


def claimed(book, name):
    """Return the number that is claimed for the index of this name, or None."""
    for index, most in book.claims:
        if index == name:
            return most
    return None


def exceeds(book, name, span, looks):
    """Tell whether so many looks for a span of an index break a claim."""
    most = claimed(book, name)
    return most is not None and len(span) == 1 and looks > most
