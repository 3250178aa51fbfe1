"""The judgement of a book of the log alone."""


def judge_log(world, book):
    """Return the findings of a book of the log."""
    found = []
    if book.confirm == "ahead":
        found.append(("ahead",))
    if book.cut == "greatest":
        found.append(("cut",))
    if book.what == "statement" and book.confirm == "behind":
        found.append(("again",))
    if book.what == "statement" and book.when == "write":
        found.append(("undo",))
    return tuple(found)
