import unittest

from bookstogether.errors import UnknownNumber
from bookstogether.logbooks import LogBook
from bookstogether.logs import Log

from tests.samples import chances

STATEMENT = ("remove", "a", ("always",))


def image(number, row=(0, 0, 0)):
    return ("row", "a", number, row)


def change(number, *differences, row=(0, 0, 0)):
    return (image(number, row), list(differences))


def units(log):
    return [log.unit(at) for at in range(log.start, len(log))]


def log_of(**options):
    return Log(LogBook(**options))


class TestPortions(unittest.TestCase):
    def told(self, **options):
        """The units of a script with two statements, of which the first one changed two rows."""
        log = log_of(**options)
        log.begin(0)
        log.wrote(0, STATEMENT, [change(3, ("k", 1), ("l", -2), row=None), change(4)])
        log.wrote(0, ("put", "a", (1, 1, 1)), [change(5, ("k", 1))])
        log.end(0)
        return units(log)

    def test_images(self):
        self.assertEqual(self.told(), [(0, (image(3, None), image(4), image(5)))])

    def test_images_and_differences(self):
        k, l = ("summary", "k", 1), ("summary", "l", -2)
        self.assertEqual(self.told(kept="logged"), [(0, (image(3, None), k, l, image(4), image(5), k))])

    def test_statements(self):
        parts = (("statement", STATEMENT), ("statement", ("put", "a", (1, 1, 1))))
        self.assertEqual(self.told(what="statement"), [(0, parts)])

    def test_statements_and_differences(self):
        k, l = ("summary", "k", 1), ("summary", "l", -2)
        parts = (("statement", STATEMENT), k, l, ("statement", ("put", "a", (1, 1, 1))), k)
        self.assertEqual(self.told(what="statement", kept="logged"), [(0, parts)])

    def test_each_portion_is_a_unit_with_write(self):
        k, l = ("summary", "k", 1), ("summary", "l", -2)
        self.assertEqual(self.told(when="write"), [(0, (image(3, None),)), (0, (image(4),)), (0, (image(5),))])
        self.assertEqual(self.told(when="write", kept="logged"), [
            (0, (image(3, None), k, l)), (0, (image(4),)), (0, (image(5), k)),
        ])
        self.assertEqual(self.told(when="write", what="statement", kept="logged"), [
            (0, (("statement", STATEMENT), k, l)), (0, (("statement", ("put", "a", (1, 1, 1))), k)),
        ])

    def test_begin_alone_is_like_end(self):
        for options in ({}, {"kept": "logged"}, {"what": "statement"}, {"what": "statement", "kept": "logged"}):
            self.assertEqual(self.told(when="begin", **options), self.told(**options))

    def test_no_changes_give_no_portion(self):
        for when in LogBook.WHEN:
            for what in LogBook.WHAT:
                log = log_of(when=when, what=what, kept="logged")
                log.begin(0)
                log.wrote(0, STATEMENT, [])
                log.end(0)
                self.assertEqual((len(log), log.script_count(10)), (0, 0), (when, what))

    def test_what_was_handed_in_may_be_changed(self):
        for what in LogBook.WHAT:
            log = log_of(what=what, kept="logged")
            log.begin(0)
            differences = [("k", 1)]
            changes = [(image(0), differences)]
            log.wrote(0, STATEMENT, changes)
            differences.append(("l", 1))
            changes.append((image(1), []))
            log.end(0)
            self.assertEqual(len(log.unit(0)[1]), 2)
            self.assertEqual(log.unit(0)[1][1], ("summary", "k", 1))

    def test_everything_returns_none(self):
        log = log_of(when="write")
        self.assertIsNone(log.begin(0))
        self.assertIsNone(log.wrote(0, STATEMENT, [change(0)]))
        self.assertIsNone(log.undone(0, [change(0, row=None)]))
        self.assertIsNone(log.back(0))
        log.begin(1)
        self.assertIsNone(log.end(1))
        self.assertIsNone(log.cut([1]))


class TestUndone(unittest.TestCase):
    def taken_back(self, **options):
        log = log_of(**options)
        log.begin(0)
        log.wrote(0, STATEMENT, [change(0, ("k", 1)), change(1)])
        log.undone(0, [change(1, row=None), change(0, ("k", -1), row=None)])
        log.back(0)
        return log

    def test_nothing_of_a_script_that_is_taken_back(self):
        for when in ("end", "begin"):
            for what in LogBook.WHAT:
                log = self.taken_back(when=when, what=what)
                self.assertEqual((len(log), log.script_count(9)), (0, 0))

    def test_write_with_images_tells_the_undoing_too(self):
        log = self.taken_back(when="write")
        self.assertEqual(units(log), [
            (0, (image(0),)), (0, (image(1),)), (0, (image(1, None),)), (0, (image(0, None),)),
        ])
        log = self.taken_back(when="write", kept="logged")
        self.assertEqual(units(log)[0], (0, (image(0), ("summary", "k", 1))))
        self.assertEqual(units(log)[3], (0, (image(0, None), ("summary", "k", -1))))
        self.assertEqual(log.script_count(9), 0)

    def test_write_with_statements_does_not(self):
        log = self.taken_back(when="write", what="statement")
        self.assertEqual(units(log), [(0, (("statement", STATEMENT),))])
        self.assertEqual(log.script_count(9), 0)


class TestBegin(unittest.TestCase):
    def written(self, log, script):
        log.wrote(script, STATEMENT, [change(script)])

    def scripts(self, log):
        return [script for script, _ in units(log)]

    def test_units_wait_for_scripts_that_began_earlier(self):
        log = log_of(when="begin")
        for script in range(4):
            log.begin(script)
            self.written(log, script)
        log.end(2)
        self.assertEqual(self.scripts(log), [])
        log.end(0)
        self.assertEqual(self.scripts(log), [0])
        log.end(3)
        self.assertEqual(self.scripts(log), [0])
        log.end(1)
        self.assertEqual(self.scripts(log), [0, 1, 2, 3])

    def test_a_script_told_back_lets_go_those_behind_it(self):
        log = log_of(when="begin")
        for script in (7, 5, 6):
            log.begin(script)
            self.written(log, script)
        log.end(6)
        log.undone(5, [change(5, row=None)])
        log.back(5)
        self.assertEqual(self.scripts(log), [])
        log.undone(7, [change(7, row=None)])
        log.back(7)
        self.assertEqual(self.scripts(log), [6])

    def test_back_before_between_and_behind(self):
        for gone in range(3):
            log = log_of(when="begin")
            for script in range(3):
                log.begin(script)
                self.written(log, script)
            for script in (2, 1, 0):
                if script == gone:
                    log.undone(script, [change(script, row=None)])
                    log.back(script)
                else:
                    log.end(script)
            self.assertEqual(self.scripts(log), [script for script in range(3) if script != gone])

    def test_a_script_that_wrote_nothing_keeps_others_waiting_all_the_same(self):
        log = log_of(when="begin")
        log.begin(0)
        log.begin(1)
        self.written(log, 1)
        log.end(1)
        self.assertEqual(len(log), 0)
        log.end(0)
        self.assertEqual(self.scripts(log), [1])

    def test_later_scripts_keep_nobody_waiting(self):
        log = log_of(when="begin")
        log.begin(0)
        self.written(log, 0)
        log.begin(1)
        log.end(0)
        self.assertEqual(self.scripts(log), [0])

    def test_with_end_the_order_is_that_of_the_ends(self):
        log = log_of()
        for script in range(3):
            log.begin(script)
            self.written(log, script)
        for script in (2, 0, 1):
            log.end(script)
        self.assertEqual(self.scripts(log), [2, 0, 1])

    def test_with_write_the_order_is_that_of_the_writings(self):
        log = log_of(when="write")
        log.begin(0)
        log.begin(1)
        for script in (1, 0, 1):
            self.written(log, script)
        log.end(0)
        log.end(1)
        self.assertEqual(self.scripts(log), [1, 0, 1])


class TestPlaces(unittest.TestCase):
    def filled(self, count, **options):
        log = log_of(**options)
        for script in range(count):
            log.begin(script)
            log.wrote(script, STATEMENT, [change(script)])
            log.end(script)
        return log

    def test_units_by_their_places(self):
        log = self.filled(3)
        self.assertEqual((log.start, len(log)), (0, 3))
        self.assertEqual(log.unit(0), (0, (image(0),)))
        self.assertEqual(log.unit(2), (2, (image(2),)))
        for at in (-1, -3, 3, 4, 10 ** 20):
            with self.assertRaises(UnknownNumber) as caught:
                log.unit(at)
            self.assertEqual(caught.exception.number, at)
        with self.assertRaises(UnknownNumber):
            log_of().unit(0)

    def test_the_book(self):
        book = LogBook(cut="least")
        self.assertIs(Log(book).book, book)

    def test_cut_never(self):
        log = self.filled(3)
        log.cut([2])
        log.cut([])
        self.assertEqual((log.start, log.unit(0)[0]), (0, 0))

    def test_cut_least(self):
        log = self.filled(4, cut="least")
        for positions, start in (([], 0), ([0, 3], 0), ([3, 2], 2), ((1, 4), 2), ([3], 3), ([0], 3), ([], 3),
                                 ([4, 4], 4)):
            log.cut(positions)
            self.assertEqual(log.start, start)
        self.assertEqual(len(log), 4)

    def test_cut_greatest(self):
        log = self.filled(4, cut="greatest")
        for positions, start in (([], 0), ([0, 0], 0), ([2, 0, 1], 2), ([1], 2), ((0, 3), 3), ([4, 0], 4), ([0], 4)):
            log.cut(positions)
            self.assertEqual(log.start, start)

    def test_what_was_cut_is_not_there(self):
        log = self.filled(4, cut="least")
        log.cut([2, 3])
        for at in (0, 1, 4):
            with self.assertRaises(UnknownNumber) as caught:
                log.unit(at)
            self.assertEqual(caught.exception.number, at)
        self.assertEqual((log.unit(2)[0], log.unit(3)[0], len(log)), (2, 3, 4))
        log.begin(9)
        log.wrote(9, STATEMENT, [change(9)])
        log.end(9)
        self.assertEqual((log.unit(4)[0], len(log), log.script_count(5)), (9, 5, 5))

    def test_the_places_are_only_read(self):
        log = self.filled(2, cut="least")
        places = [1, 2]
        log.cut(places)
        self.assertEqual(places, [1, 2])


class TestScriptCount(unittest.TestCase):
    def test_scripts_that_ended_and_have_written(self):
        log = log_of()
        for script in range(5):
            log.begin(script)
        for script in (3, 1, 0):
            if script != 1:
                log.wrote(script, STATEMENT, [change(script)])
            log.end(script)
        log.wrote(2, STATEMENT, [change(2)])
        log.undone(2, [change(2, row=None)])
        log.back(2)
        self.assertEqual([log.script_count(applied) for applied in (0, 1, 2, 3, 10 ** 20)], [0, 1, 2, 2, 2])

    def test_all_units_of_a_script_must_lie_before(self):
        log = log_of(when="write")
        log.begin(0)
        log.begin(1)
        log.wrote(0, STATEMENT, [change(0)])
        log.wrote(1, STATEMENT, [change(1), change(2)])
        log.wrote(0, STATEMENT, [change(0)])
        self.assertEqual(log.script_count(4), 0)
        log.end(0)
        self.assertEqual([log.script_count(applied) for applied in range(5)], [0, 0, 0, 0, 1])
        log.end(1)
        # The script that ended first holds up the other one, whose units lie before its own last one.
        self.assertEqual([log.script_count(applied) for applied in range(5)], [0, 0, 0, 0, 2])

    def test_units_of_scripts_that_are_taken_back_take_places(self):
        log = log_of(when="write")
        log.begin(0)
        log.begin(1)
        log.wrote(0, STATEMENT, [change(0)])
        log.wrote(1, STATEMENT, [change(1)])
        log.undone(0, [change(0, row=None)])
        log.back(0)
        log.end(1)
        self.assertEqual([log.script_count(applied) for applied in range(4)], [0, 0, 1, 1])

    def test_a_script_that_waits(self):
        log = log_of(when="begin")
        log.begin(0)
        log.begin(1)
        log.begin(2)
        for script in (2, 0, 1):
            log.wrote(script, STATEMENT, [change(script)])
        log.end(2)
        self.assertEqual(log.script_count(10 ** 20), 0)
        log.end(0)
        # Script 2 ended first, and its unit is not appended yet.
        self.assertEqual((len(log), log.script_count(1)), (1, 0))
        log.end(1)
        self.assertEqual([log.script_count(applied) for applied in range(4)], [0, 0, 0, 3])

    def test_cutting_does_not_count(self):
        log = log_of(cut="least")
        for script in range(3):
            log.begin(script)
            log.wrote(script, STATEMENT, [change(script)])
            log.end(script)
        log.cut([2])
        self.assertEqual([log.script_count(applied) for applied in range(4)], [0, 1, 2, 3])


def plain_units(steps, when):
    """The scripts of the units, and those that ended and have written, told by the words of the points."""
    begins = [script for word, script in steps if word == "begin"]
    told = []
    ended = []
    for now, (word, script) in enumerate(steps):
        wrote = ("wrote", script) in steps[:now]
        if word == "wrote" and when == "write":
            told.append(script)
        if word == "undone" and when == "write":
            told.append(script)
        if word == "end" and wrote:
            ended.append(script)
        if word == "end" and wrote and when == "end":
            told.append(script)
        if word in ("end", "back") and when == "begin":
            over = {other for step, other in steps[:now + 1] if step in ("end", "back")}
            for at, other in enumerate(begins):
                if other in ended and other not in told and set(begins[:at]) <= over:
                    told.append(other)
    return told, ended


class TestManyScripts(unittest.TestCase):
    def steps(self, chance):
        """Steps of scripts that overlap."""
        steps = []
        ahead = {script: chance.randrange(3) for script in range(7)}
        unborn = list(ahead)
        chance.shuffle(unborn)
        living = []
        while unborn or living:
            if unborn and (not living or chance.randrange(3) == 0):
                living.append(unborn.pop())
                steps.append(("begin", living[-1]))
                continue
            script = chance.choice(living)
            if ahead[script] > 0:
                ahead[script] -= 1
                steps.append(("wrote", script))
                continue
            living.remove(script)
            if chance.randrange(3) == 0:
                steps.extend([("undone", script)] * (("wrote", script) in steps) + [("back", script)])
            else:
                steps.append(("end", script))
        return steps

    def test_compared_with_the_words_of_the_points(self):
        for chance in chances(150, "logs"):
            steps = self.steps(chance)
            for when in LogBook.WHEN:
                log = log_of(when=when)
                for now, (word, script) in enumerate(steps):
                    if word == "wrote":
                        log.wrote(script, STATEMENT, [change(script)])
                    elif word == "undone":
                        log.undone(script, [change(script, row=None)])
                    else:
                        getattr(log, word)(script)
                    told, ended = plain_units(steps[:now + 1], when)
                    self.assertEqual([unit[0] for unit in units(log)], told)
                    for applied in range(len(told) + 2):
                        counted = [
                            count for count in range(len(ended) + 1)
                            if all(
                                script in told and max(at for at, one in enumerate(told) if one == script) < applied
                                for script in ended[:count]
                            )
                        ]
                        self.assertEqual(log.script_count(applied), max(counted))
