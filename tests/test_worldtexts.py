"""Promise [7], and [1], [2] and [4] as they bear on it."""

import unittest

from helper import EIGHT, MovedTest, THREE, WORLD_HEAD, is_world_line, large_worlds, spoiled_texts
from movedwhole.clusters import Cluster
from movedwhole.errors import InvalidText
from movedwhole.worldtexts import read_world, write_world

TEXT = "cluster 3 2\nstore 0 12 1\nstore 10 5 8\nstore 99 0 2\npiece 1 0,2\npiece 3 0,1,2"
WORLD = (Cluster((0, 10, 99), (12, 5, 0), (1, 8, 2)), (1, 3), ((0, 2), (0, 1, 2)))


def first_wrong_sign(text):
    """Where the text is wrong, by the words of the promise; None if it is the text of a world."""
    lines = text.split("\n")
    for place in range(len(lines)):
        if not is_world_line(lines, place):
            return sum(len(line) + 1 for line in lines[:place])
    head = WORLD_HEAD.fullmatch(lines[0])
    return None if len(lines) == 1 + int(head[1]) + int(head[2]) else len(text)


class WriteTest(MovedTest):

    def test_line_by_line(self):
        self.assertEqual(write_world(*WORLD), TEXT)
        cluster, wishes, placing = WORLD
        self.assertEqual(write_world(cluster=cluster, wishes=wishes, placing=placing), TEXT)

    def test_no_pieces(self):
        self.assertEqual(write_world(Cluster((7,), (0,), (8,)), (), ()), "cluster 1 0\nstore 7 0 8")

    def test_a_placing_that_keeps_no_rules_is_written_too(self):
        text = write_world(Cluster((1, 1), (0, 0), (1, 1)), (3,), ((0, 1),))
        self.assertEqual(text, "cluster 2 1\nstore 1 0 1\nstore 1 0 1\npiece 3 0,1")


class ReadTest(MovedTest):

    def assert_wrong(self, text, at):
        self.assert_raised(InvalidText, {"text": text, "at": at}, read_world, text)

    def test_the_same_triple(self):
        self.assertEqual(read_world(TEXT), WORLD)
        self.assertEqual(read_world(text=TEXT), WORLD)
        self.assertIs(type(read_world(TEXT)), tuple)
        self.assert_plain(read_world(TEXT)[1:])
        for world in ((THREE, (), ()), (EIGHT, (1,), ((0, 1, 2, 3, 4, 5, 6, 7),)), (EIGHT, (3, 2), ((7,), (0, 7)))):
            self.assertEqual(read_world(write_world(*world)), world)

    def test_forty_pieces_at_eight_stores(self):
        for world in large_worlds(2, 5):
            text = write_world(*world)
            self.assertEqual(read_world(text), world)
            self.assertEqual(write_world(*read_world(text)), text)
            self.assert_wrong(text + "\npiece 1 0", len(text) + 1)
            self.assert_wrong("cluster 8 41" + text[12:] + "\npiece 1 0", 0)

    def test_a_wrong_first_line(self):
        for line in ("", " ", "cluster", "cluster 1", "cluster 0 0", "cluster 9 0", "cluster 1 41", "cluster 01 0",
                     "cluster 1 00", "cluster 1 0 ", " cluster 1 0", "cluster  1 0", "cluster 1 0 0", "Cluster 1 0",
                     "cluster 1 -1", "cluster +1 0", "cluster 1 100", "cluster 1 x", "store 0 0 1", "cluster 1\t0"):
            self.assert_wrong(line, 0)
            self.assert_wrong(line + "\nstore 0 0 1", 0)

    def test_a_wrong_line_of_a_store(self):
        for line in ("store 100 0 1", "store 0 100 1", "store 0 0 0", "store 0 0 9", "store 0 0 10", "store 00 0 1",
                     "store 0 01 1", "store 0 0 01", "store 0 0", "store 0 0 1 1", "store 0 0 1 ", "store  0 0 1",
                     "store 0  0 1", " store 0 0 1", "stores 0 0 1", "store", "", "store -1 0 1", "store 0 0 1,1",
                     "piece 1 0", "store 0 0 1\r", "store 0 0 \u0661", "store 0 0 \u00b9", "store 0 1_0 1",
                     "store " + "1" * 5000 + " 0 1"):
            self.assert_wrong("cluster 2 0\nstore 0 0 1\n" + line, 24)
            self.assert_wrong("cluster 2 0\n" + line + "\nstore 0 0 1", 12)

    def test_a_wrong_line_of_a_piece(self):
        for line in ("piece 0 0", "piece 4 0", "piece 01 0", "piece 1 ", "piece 1", "piece 1 2", "piece 1 1,0",
                     "piece 1 0,0", "piece 1 0,", "piece 1 ,0", "piece 1 0,,1", "piece 1 00", "piece 1 0,01",
                     "piece 1 0 1", "piece 1 0, 1", "piece 1 -1", "piece 1 0;1", "piece  1 0", "piece 1 0 ", "",
                     "piece 1 -", "store 0 0 1", "piece 10 0", "piece 1 10"):
            self.assert_wrong("cluster 2 1\nstore 0 0 1\nstore 1 0 1\n" + line, 36)

    def test_lines_too_many(self):
        for more in ("", "x", "piece 1 0", "store 0 0 1"):
            self.assert_wrong("cluster 1 0\nstore 0 0 1\n" + more, 24)
            self.assert_wrong(TEXT + "\n" + more, len(TEXT) + 1)

    def test_lines_that_are_lacking(self):
        lines = TEXT.split("\n")
        for count in range(1, len(lines)):
            text = "\n".join(lines[:count])
            self.assert_wrong(text, len(text))
            self.assert_wrong(text + "\n", len(text) + 1)
        self.assert_wrong("", 0)

    def test_every_text_that_differs_a_little(self):
        texts = spoiled_texts(TEXT, "\n ,0123489-acx")
        wrong = 0
        for text in texts:
            at = first_wrong_sign(text)
            if at is None:
                self.assertEqual(write_world(*read_world(text)), text)
            else:
                wrong += 1
                self.assert_wrong(text, at)
        self.assertGreater(wrong, len(texts) // 2)


if __name__ == "__main__":
    unittest.main()
