"""The verdict on the books of all parts."""

from bookstogether.bookshelf import PARTS
from bookstogether.copyjudge import judge_copies
from bookstogether.hidingjudge import judge_hiding
from bookstogether.indexjudge import judge_indexes
from bookstogether.lockjudge import judge_locks
from bookstogether.logjudge import judge_log
from bookstogether.lookjudge import judge_looks
from bookstogether.meetings import meet_books
from bookstogether.summaryjudge import judge_summaries
from bookstogether.upsertjudge import judge_upserts


class Verdict:
    """The findings on books, as pairs of a tuple of parts and a finding, and a paper with their numbers."""

    def __init__(self, findings, paper):
        self.findings = tuple(findings)
        self.paper = tuple(paper)

    def __len__(self):
        return len(self.findings)

    def __iter__(self):
        return iter(self.findings)

    @property
    def right(self):
        """Whether there are no findings."""
        return len(self.findings) == 0

    def found_in(self, *parts):
        """Return the findings of exactly these parts."""
        return tuple([finding for where, finding in self.findings if where == parts])


def _alone(world, books):
    """Return a dict of the findings of each book alone."""
    return {
        "upserts": judge_upserts(world, books.upserts),
        "indexes": judge_indexes(world, books.indexes),
        "locks": judge_locks(world, books.locks),
        "hiding": judge_hiding(world, books.hiding),
        "looks": judge_looks(world, books.looks),
        "summaries": judge_summaries(world, books.summaries),
        "log": judge_log(world, books.log),
        "copies": judge_copies(world, books.copies),
    }


def judge(world, books):
    """Check the books and return the verdict on them."""
    books.check(world)
    alone = _alone(world, books)
    findings = [((part,), finding) for part in PARTS for finding in alone[part]]
    paper = [f"{part}: {len(alone[part])}" for part in PARTS]
    for at, first in enumerate(PARTS):
        for second in PARTS[at + 1:]:
            # Where a book is wrong alone, its meetings are not judged.
            if len(alone[first]) > 0 or len(alone[second]) > 0:
                paper.append(f"{first} {second}: -")
                continue
            met = meet_books(world, books, first, second)
            findings.extend([((first, second), finding) for finding in met])
            paper.append(f"{first} {second}: {len(met)}")
    return Verdict(findings, paper)
