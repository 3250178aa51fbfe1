"""The judgement of a book of summaries alone."""

from bookstogether.rows import all_rows


def judge_summaries(world, book):
    """Return the findings of a book of summaries."""
    if book.greatest != "stays":
        return ()
    for summary in book.summaries:
        for row in all_rows():
            if summary.kind == "greatest" and summary.share(row) is not None:
                return (("stays", summary.name, row),)
    return ()
