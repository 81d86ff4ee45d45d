"""Promise [16], and [1] to [4] as they bear on it."""

import copy
import random
import time
import unittest

from helper import (EIGHT, MovedTest, NO_INTEGERS, NO_TUPLES, THREE, deep, journal_of, random_journal)
from movedwhole.clusters import Cluster
from movedwhole.errors import InvalidJournal
from movedwhole.journals import first_wrong_line, in_force, stands_by

FIRST = ("first", ((0,), (0, 1)))
CHANGE = ("change", ((1,), (1, 2)))
WHOLE = (FIRST, CHANGE, ("made", 0, 1), ("dropped", 0), ("made", 1, 2), ("dropped", 1))


class JournalTest(MovedTest):

    def assert_told(self, cluster, journal):
        """That the journal, and each beginning of it, tells what it tells by the words."""
        wrong, _, _ = journal_of(cluster, journal)
        self.assertTrue(self.same(first_wrong_line(cluster, journal), wrong), (journal, wrong))
        self.assertTrue(self.same(first_wrong_line(cluster=cluster, journal=journal), wrong))
        for many in range(len(journal) + 1):
            beginning = journal[:many]
            wrong, stands, force = journal_of(cluster, beginning)
            if wrong is None:
                self.assert_right(cluster, beginning, stands, force)
            else:
                self.assert_wrong(cluster, beginning, wrong)

    def assert_right(self, cluster, journal, stands, force):
        self.assertIsNone(first_wrong_line(cluster, journal))
        for call, expected in ((stands_by, stands), (in_force, force)):
            found = call(cluster, journal)
            self.assertEqual(found, expected, journal)
            self.assert_plain(found)
            self.assertEqual(call(cluster=cluster, journal=journal), found)

    def assert_wrong(self, cluster, journal, place):
        """That the journal is wrong from the line at the place on."""
        self.assertTrue(self.same(first_wrong_line(cluster, journal), place), (journal, place))
        for call in (stands_by, in_force):
            self.assert_raised(InvalidJournal, {"place": place}, call, cluster, journal)
            self.assert_raised(InvalidJournal, {"place": place}, call, cluster=cluster, journal=journal)


class RightTest(JournalTest):

    def test_line_by_line(self):
        expected = (
            (((0,), (0, 1)), FIRST[1]), (((0,), (0, 1)), CHANGE[1]), (((0, 1), (0, 1)), CHANGE[1]),
            (((1,), (0, 1)), CHANGE[1]), (((1,), (0, 1, 2)), CHANGE[1]), (((1,), (1, 2)), CHANGE[1]),
        )
        for many, (stands, force) in enumerate(expected, start=1):
            self.assert_right(THREE, WHOLE[:many], stands, force)

    def test_no_pieces(self):
        self.assert_right(THREE, (("first", ()),), (), ())
        self.assert_right(THREE, (("first", ()), ("change", ()), ("change", ())), (), ())

    def test_drops_that_are_due_at_once_the_least_piece_first(self):
        journal = (("first", ((0, 1), (0, 1), (2,))), ("change", ((0,), (1,), (2,))), ("dropped", 0), ("dropped", 1))
        self.assert_right(THREE, journal[:2], ((0, 1), (0, 1), (2,)), ((0,), (1,), (2,)))
        self.assert_right(THREE, journal[:3], ((0,), (0, 1), (2,)), ((0,), (1,), (2,)))
        self.assert_right(THREE, journal, ((0,), (1,), (2,)), ((0,), (1,), (2,)))
        self.assert_wrong(THREE, journal[:2] + (("dropped", 1),), 2)
        self.assert_wrong(THREE, journal[:3] + (("dropped", 0),), 3)
        self.assert_wrong(THREE, journal + (("dropped", 2),), 4)

    def test_a_change_amid_a_change(self):
        journal = (("first", ((0,),)), ("change", ((1, 2),)), ("made", 0, 1), ("change", ((2,),)))
        self.assert_right(THREE, journal, ((0, 1),), ((2,),))
        self.assert_right(THREE, journal + (("made", 0, 2),), ((0, 1, 2),), ((2,),))
        self.assert_right(THREE, journal + (("made", 0, 2), ("dropped", 0)), ((2,),), ((2,),))
        self.assert_wrong(THREE, journal + (("made", 0, 1),), 4)
        self.assert_right(THREE, journal[:3] + (("change", ((0, 1),)),), ((0, 1),), ((0, 1),))
        self.assert_right(THREE, journal[:3] + (("change", ((0,),)), ("dropped", 0)), ((0,),), ((0,),))

    def test_a_journal_that_goes_by_more_stores(self):
        journal = (("first", ((0,),)), ("change", ((1,),)))
        self.assert_right(Cluster((0, 1), (9, 9), (1, 1)), journal, ((0,),), ((1,),))
        self.assert_wrong(Cluster((0,), (9,), (1,)), journal, 1)
        self.assert_wrong(Cluster((0,), (9,), (1,)), (("first", ((1,),)),), 0)

    def test_many_journals_by_the_words(self):
        chance = random.Random(161)
        for _ in range(60):
            stores = chance.randint(1, 4)
            cluster = Cluster((0,) * stores, (0,) * stores, (1,) * stores)
            self.assert_told(cluster, random_journal(chance, cluster, chance.randint(0, 3), chance.randint(1, 16)))

    def test_a_thousand_lines_in_a_short_time(self):
        journal = [("first", ((0,),) * 40)]
        while len(journal) < 1000:
            here, there = (0, 1) if len(journal) // 81 % 2 == 0 else (1, 0)
            journal.append(("change", ((there,),) * 40))
            for piece in range(40):
                journal += [("made", piece, there), ("dropped", piece)]
        journal = tuple(journal[:1000])
        start = time.process_time()
        for call in (first_wrong_line, stands_by, in_force):
            call(EIGHT, journal)
        self.assertLess(time.process_time() - start, 3)
        self.assertIsNone(first_wrong_line(EIGHT, journal))
        self.assertEqual(stands_by(EIGHT, journal), journal_of(EIGHT, journal)[1])
        self.assert_wrong(EIGHT, journal[:999] + (("first", ((0,),) * 40),), 999)


class WrongTest(JournalTest):

    def test_any_value_that_is_no_non_empty_tuple(self):
        for value in NO_TUPLES + ((), list(WHOLE), "first", [FIRST], THREE, None, True):
            self.assert_wrong(THREE, value, 0)

    def test_any_value_as_a_line(self):
        lines = NO_TUPLES + NO_INTEGERS + ((), ("first",), (0,), ((),), ("",), [FIRST], [["first", ()]], (THREE,))
        for line in lines + (deep("made", 8), deep(FIRST, 7), (["first"], ((0,),)), ((("made",),), 0, 1)):
            for many in range(len(WHOLE) + 1):
                self.assert_wrong(THREE, WHOLE[:many] + (line,), many)
                self.assert_wrong(THREE, WHOLE[:many] + (line,) + WHOLE[many:], many)

    def test_other_words(self):
        for word in ("", "First", "firsts", "make", "drop", " made", "made ", None, 0, True, ("made",)):
            self.assert_wrong(THREE, ((word, FIRST[1]),), 0)
            self.assert_wrong(THREE, (FIRST, (word, CHANGE[1])), 1)
            self.assert_wrong(THREE, (FIRST, CHANGE, (word, 0, 1)), 2)
            self.assert_wrong(THREE, WHOLE[:3] + ((word, 0),), 3)

    def test_a_line_too_long_or_too_short(self):
        for more in (0, None, (), ((0,), (0, 1)), "x"):
            for place, line in enumerate(WHOLE):
                self.assert_wrong(THREE, WHOLE[:place] + (line + (more,),), place)
                self.assert_wrong(THREE, WHOLE[:place] + (line[:-1],), place)
                self.assert_wrong(THREE, WHOLE[:place] + (list(line),), place)

    def test_placings_that_are_none(self):
        lots = ((), (3,), (-1,), (1, 0), (0, 0), [0], (True,), (None,), ("0",), 0, None, "0", ((0,),), THREE)
        placings = [(lot, (0,)) for lot in lots] + [((0,), lot) for lot in lots]
        for placing in placings + list(NO_TUPLES) + [[(0,), (0,)], (0, 1)]:
            self.assert_wrong(THREE, (("first", placing),), 0)
            self.assert_wrong(THREE, (FIRST, ("change", placing)), 1)
        for placing in ((), ((0,),), ((0,), (0,), (0,))):
            self.assert_wrong(THREE, (FIRST, ("change", placing)), 1)
            self.assert_right(THREE, (("first", placing),), placing, placing)

    def test_first_stands_first_and_nowhere_else(self):
        for line in WHOLE[1:]:
            self.assert_wrong(THREE, (line,), 0)
        for many in range(1, len(WHOLE) + 1):
            self.assert_wrong(THREE, WHOLE[:many] + (FIRST,), many)

    def test_made_and_dropped_ahead_of_a_change(self):
        for line in (("made", 0, 0), ("made", 0, 1), ("dropped", 0), ("dropped", 1)):
            self.assert_wrong(THREE, (FIRST, line), 1)

    def test_copies_that_are_not_to_be_made(self):
        for piece in NO_INTEGERS + (2, -1, -2, 99, 10 ** 30):
            self.assert_wrong(THREE, (FIRST, CHANGE, ("made", piece, 1)), 2)
        for store in NO_INTEGERS + (0, 2, 3, -1, 99, 10 ** 30):
            self.assert_wrong(THREE, (FIRST, CHANGE, ("made", 0, store)), 2)
        self.assert_wrong(THREE, (FIRST, CHANGE, ("made", 1, 1)), 2)
        self.assert_wrong(THREE, WHOLE[:4] + (("made", 0, 1),), 4)
        self.assert_wrong(THREE, (FIRST, ("change", ((1, 2), (0,))), ("dropped", 1), ("made", 0, 1), ("made", 0, 1)), 4)

    def test_where_a_drop_is_due_only_this_one_may_follow(self):
        for line in (FIRST, CHANGE, ("made", 1, 2), ("made", 0, 1), ("dropped", 1), ("dropped", 2), ("dropped", -1)):
            self.assert_wrong(THREE, WHOLE[:3] + (line,), 3)
        for piece in NO_INTEGERS:
            self.assert_wrong(THREE, WHOLE[:3] + (("dropped", piece),), 3)
        self.assert_wrong(THREE, (FIRST, ("change", ((0,), (1,))), ("dropped", True)), 2)

    def test_drops_that_are_not_due(self):
        for piece in (0, 1, 2, -1, True, False, None):
            self.assert_wrong(THREE, (FIRST, CHANGE, ("dropped", piece)), 2)
            self.assert_wrong(THREE, WHOLE + (("dropped", piece),), 6)
            self.assert_wrong(THREE, (FIRST, ("change", FIRST[1]), ("dropped", piece)), 2)

    def test_each_line_in_the_place_of_each_other(self):
        chance = random.Random(162)
        for _ in range(40):
            cluster = Cluster((0,) * 3, (0,) * 3, (1,) * 3)
            journal = random_journal(chance, cluster, 2, 8)
            other = random_journal(chance, cluster, 2, 8)
            for line in other + (("made", 1, True), ("dropped", False), ["dropped", 0]):
                place = chance.randrange(len(journal))
                self.assert_told(cluster, journal[:place] + (line,) + journal[place + 1:])
                self.assert_told(cluster, journal[:place] + (line,) + journal[place:])

    def test_no_argument_is_changed(self):
        for value in [list(WHOLE), [[FIRST]], (["first", [[0]]],), deep([FIRST], 8)]:
            kept = copy.deepcopy(value)
            for call in (first_wrong_line, stands_by, in_force):
                try:
                    call(THREE, value)
                except InvalidJournal:
                    pass
            self.assertEqual(value, kept)


if __name__ == "__main__":
    unittest.main()
