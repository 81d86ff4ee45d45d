"""Promise [20], and [1], [2] and [4] as they bear on it."""

import random
import re
import time
import unittest

from helper import EIGHT, MovedTest, THREE, TOLD_NUMBER, journal_of, large_worlds, random_journal, spoiled_texts
from movedwhole.clusters import Cluster
from movedwhole.errors import InvalidText, Undefined
from movedwhole.journaltexts import read_journal, write_journal
from movedwhole.runs import Run

LOT = f"{TOLD_NUMBER}(?:,{TOLD_NUMBER})*"
FORM = re.compile(f"(first|change) (-|{LOT}(?:;{LOT})*)|(made) ({TOLD_NUMBER}) ({TOLD_NUMBER})|"
                  f"(dropped) ({TOLD_NUMBER})")
TEXT = "first 0;0,1\nchange 1;1,2\nmade 0 1\ndropped 0\nmade 1 2\ndropped 1\nchange 0,2;1\ndropped 1"
JOURNAL = (("first", ((0,), (0, 1))), ("change", ((1,), (1, 2))), ("made", 0, 1), ("dropped", 0), ("made", 1, 2),
           ("dropped", 1), ("change", ((0, 2), (1,))), ("dropped", 1))


def line_by_words(line):
    """The journal's line that the line of text tells, or None, without a look at the lines ahead."""
    found = FORM.fullmatch(line)
    if found is None:
        return None
    if found[1]:
        lots = [] if found[2] == "-" else found[2].split(";")
        return (found[1], tuple(tuple(int(store) for store in lot.split(",")) for lot in lots))
    return (found[3], int(found[4]), int(found[5])) if found[3] else (found[6], int(found[7]))


def wrong_sign(cluster, text):
    """Where the text is wrong, by the words of the promise; None if it is the text of a right journal."""
    lines = text.split("\n")
    journal = tuple(line_by_words(line) for line in lines)
    place = journal_of(cluster, journal)[0]
    return None if place is None else sum(len(line) + 1 for line in lines[:place])


class WriteTest(MovedTest):

    def test_line_by_line(self):
        self.assertEqual(write_journal(JOURNAL), TEXT)
        self.assertEqual(write_journal(journal=JOURNAL), TEXT)
        for many in range(1, len(JOURNAL)):
            self.assertEqual(write_journal(JOURNAL[:many]), "\n".join(TEXT.split("\n")[:many]))

    def test_no_piece(self):
        self.assertEqual(write_journal((("first", ()), ("change", ()))), "first -\nchange -")

    def test_numbers_of_two_figures(self):
        journal = (("first", ((0,),) * 40), ("change", ((0,),) * 39 + ((1,),)), ("made", 39, 1), ("dropped", 39))
        self.assertEqual(write_journal(journal).split("\n")[2:], ["made 39 1", "dropped 39"])
        self.assertEqual(read_journal(THREE, write_journal(journal)), journal)


class ReadTest(MovedTest):

    def assert_wrong(self, cluster, text, at):
        self.assert_raised(InvalidText, {"text": text, "at": at}, read_journal, cluster, text)
        self.assert_raised(InvalidText, {"text": text, "at": at}, read_journal, cluster=cluster, text=text)

    def test_the_same_journal(self):
        self.assertEqual(read_journal(THREE, TEXT), JOURNAL)
        self.assertEqual(read_journal(cluster=THREE, text=TEXT), JOURNAL)
        self.assert_plain(read_journal(THREE, TEXT))
        for journal in ((("first", ()),), (("first", ()), ("change", ())), (("first", ((0, 1, 2),)),)):
            self.assertEqual(read_journal(THREE, write_journal(journal)), journal)

    def test_there_and_back_by_chance(self):
        chance = random.Random(201)
        for _ in range(80):
            stores = chance.randint(1, 4)
            cluster = Cluster((0,) * stores, (0,) * stores, (1,) * stores)
            journal = random_journal(chance, cluster, chance.randint(0, 3), chance.randint(1, 12))
            for many in range(1, len(journal) + 1):
                text = write_journal(journal[:many])
                self.assertEqual(read_journal(cluster, text), journal[:many])
                self.assertEqual(write_journal(read_journal(cluster, text)), text)

    def test_journals_of_runs_in_a_short_time(self):
        start = time.process_time()
        found = 0
        for cluster, wishes, before in large_worlds(202, 20):
            try:
                run = Run(cluster, wishes, before)
            except Undefined:
                continue
            while run.left():
                run.go(("done",) * len(run.left()[0]))
            found += 1
            self.assertEqual(read_journal(cluster, write_journal(run.journal())), run.journal())
        self.assertGreater(found, 5)
        self.assertLess(time.process_time() - start, 20)

    def test_a_text_with_a_thousand_lines(self):
        changes = [("change", ((1,),)), ("change", ((0,),))] * 500
        journal = (("first", ((0,),)),) + tuple(changes[:999])
        self.assertEqual(read_journal(EIGHT, write_journal(journal)), journal)
        self.assert_wrong(EIGHT, write_journal(journal) + "\n", len(write_journal(journal)) + 1)

    def test_empty_lines(self):
        self.assert_wrong(THREE, "", 0)
        self.assert_wrong(THREE, "\n" + TEXT, 0)
        self.assert_wrong(THREE, TEXT + "\n", len(TEXT) + 1)
        self.assert_wrong(THREE, TEXT.replace("\nmade 0", "\n\nmade 0"), 25)

    def test_wrong_first_lines(self):
        for line in ("first", "first ", "first 0;", "first ;0", "first 0;;1", "first 0,", "first ,0", "first 1,0",
                     "first 0,0", "first 00", "first 01", "first 3", "first 10", "first 100", "first -1", "first +1",
                     "first 0 ", " first 0", "first  0", "first 0 1", "First 0", "first 0; 1", "first 0, 1", "first --",
                     "first -;0", "first 0;-", "first \u0661", "first 0\r", "first\t0", "firsts 0", "first 0.", "x",
                     "first " + "0" * 5000, "change 0", "made 0 1", "dropped 0"):
            self.assert_wrong(THREE, line, 0)
            self.assert_wrong(THREE, line + "\nchange 0", 0)

    def test_wrong_lines_behind_the_first(self):
        for line in ("change", "change ", "change 0", "change 0;1;2", "change -", "change 0;3", "change 0;1,0",
                     "change 0;01", "change 0;1 ", "change  0;1", "change 0 1", "made", "made 0", "made 0 ",
                     "made 0 2 0",
                     "made 0  1", "made 0 1 ", " made 0 1", "made 00 1", "made 0 01", "made 0 001", "made 000 1",
                     "made 0,1", "made 100 1", "made 0 100", "made 2 1", "made 0 3", "made 0 0", "made 0 2",
                     "made -0 1",
                     "made 0 +1", "make 0 1", "made 0 1\r", "dropped", "dropped ", "dropped 0", "dropped 1",
                     "dropped 2",
                     "first 0;0,1", "", " ", "made 0 \u0661", "made \u00b9 1", "made 0 1_0",
                     "made " + "9" * 5000 + " 1"):
            self.assert_wrong(THREE, "first 0;0,1\nchange 1;1,2\n" + line, 25)
            self.assert_wrong(THREE, "first 0;0,1\nchange 1;1,2\n" + line + "\nmade 0 1", 25)

    def test_wrong_lines_where_a_drop_is_due(self):
        for line in ("dropped 1", "dropped 00", "dropped 0 ", "dropped  0", "dropped 000", "dropped 0 0", "made 1 2",
                     "change 1;1", "dropped", "dropped -0"):
            self.assert_wrong(THREE, "first 0;0,1\nchange 1;1,2\nmade 0 1\n" + line, 34)

    def test_every_text_that_differs_a_little(self):
        texts = spoiled_texts(TEXT, "\n ,;-0123489acx")
        wrong = 0
        for text in texts:
            at = wrong_sign(THREE, text)
            if at is None:
                self.assertEqual(write_journal(read_journal(THREE, text)), text)
            else:
                wrong += 1
                self.assert_wrong(THREE, text, at)
        self.assertGreater(wrong, len(texts) // 2)


if __name__ == "__main__":
    unittest.main()
