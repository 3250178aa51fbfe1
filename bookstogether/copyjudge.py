"""The judgement of a book of copies alone."""

from bookstogether.copybooks import MARKS, CopyBook
from bookstogether.indexchoices import position_choices


def unkept(book):
    """Return the promises of copies that answer and that the marks do not keep, in order."""
    if not book.served:
        return []
    kept = CopyBook.kept_by(book.marks)
    return [promise for promise in book.promises if promise not in kept]


def judge_copies(world, book):
    """Return the findings of a book of copies."""
    return tuple([(promise,) for promise in unkept(book)])


def least_marks(promises):
    """Return the shortest tuple of marks that keeps all the promises."""
    # The last choice is that of all marks, which keeps every promise.
    for choice in position_choices(len(MARKS)):
        marks = tuple([MARKS[at] for at in choice])
        if all([promise in CopyBook.kept_by(marks) for promise in promises]):
            return marks
