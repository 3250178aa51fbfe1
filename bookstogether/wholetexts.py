"""The text of a world, its books, a start and a story together."""

from bookstogether.bookshelf import PARTS, Books
from bookstogether.copybooks import CopyBook
from bookstogether.errors import InvalidText
from bookstogether.hidingbooks import HidingBook
from bookstogether.indexbooks import IndexBook
from bookstogether.lockbooks import LockBook
from bookstogether.logbooks import LogBook
from bookstogether.lookbooks import LookBook
from bookstogether.summarybooks import SummaryBook
from bookstogether.texts import read_store_lines, read_world_lines, write_store, write_world
from bookstogether.turns import TURNS, take_turn, write_turn
from bookstogether.upsertbooks import UpsertBook
from bookstogether.words import LineReader

GROUPS = ("world", "upserts", "indexes", "locks", "hiding", "looks", "summaries", "log", "copies", "store", "story")

# For the first word of a line, but for those of turns, the group to which the line belongs.
FIRST_WORDS = {
    "table": "world",
    "rule": "world",
    "upserts": "upserts",
    "arbiter": "upserts",
    "indexes": "indexes",
    "index": "indexes",
    "locks": "locks",
    "hiding": "hiding",
    "hide": "hiding",
    "looks": "looks",
    "claim": "looks",
    "summaries": "summaries",
    "summary": "summaries",
    "edge": "summaries",
    "log": "log",
    "copies": "copies",
    "row": "store",
}


def write_whole(world, books, store, story):
    """Return the text of a world, its books, the rows of a start and a story."""
    texts = [write_world(world)] + books.lines()
    if len(store) > 0:
        texts.append(write_store(store))
    return "\n".join(texts + [write_turn(turn) for turn in story])


def _group_of(line, text):
    """Return the place of the group to which a line belongs."""
    word = text.split(" ")[0]
    if word in TURNS:
        return GROUPS.index("story")
    if word not in FIRST_WORDS:
        raise InvalidText(line)
    return GROUPS.index(FIRST_WORDS[word])


def _grouped(text):
    """Return a dict from each group to the pairs of a line number and a line that belong to it."""
    groups = {group: [] for group in GROUPS}
    before = 0
    for line, words in enumerate(text.split("\n"), start=1):
        place = _group_of(line, words)
        if place < before:
            raise InvalidText(line)
        before = place
        groups[GROUPS[place]].append((line, words))
    return groups


def _read_book(part, lines):
    """Return the book of a part that is written in lines."""
    if part == "upserts":
        return UpsertBook.from_lines(lines)
    if part == "indexes":
        return IndexBook.from_lines(lines)
    if part == "locks":
        return LockBook.from_lines(lines)
    if part == "hiding":
        return HidingBook.from_lines(lines)
    if part == "looks":
        return LookBook.from_lines(lines)
    if part == "summaries":
        return SummaryBook.from_lines(lines)
    if part == "log":
        return LogBook.from_lines(lines)
    return CopyBook.from_lines(lines)


def _read_turn(line, text):
    """Return the turn that is written in a line."""
    reader = LineReader(line, text)
    turn = take_turn(reader)
    reader.end()
    return turn


def read_whole(text):
    """Return the world, the books, the store and the story of a text."""
    groups = _grouped(text)
    world = read_world_lines(groups["world"])
    # A part without lines gets its plain book.
    chosen = {part: _read_book(part, groups[part]) for part in PARTS if len(groups[part]) > 0}
    books = Books(**chosen)
    store = read_store_lines(world, groups["store"], books.hiding.sight)
    return (world, books, store, tuple([_read_turn(line, words) for line, words in groups["story"]]))
