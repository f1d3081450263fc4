"""Point 33 with the refusals of 6, and of point 2 what is told of written boards."""

import unittest

from byhand import great_boards, small_boards
from stonelay.boards import board_of
from stonelay.errors import NoBoard, NoCount, NoText, StoneError
from stonelay.texts import read, written


class WrittenTest(unittest.TestCase):
    def test_written_out(self):
        self.assertEqual(written(board_of(["1?", "??"], 2)), "2/1?/??")
        self.assertEqual(written(board_of(["?"], 0)), "0/?")
        self.assertEqual(written(board_of(["#8?", "???"], 64)), "64/#8?/???")
        self.assertEqual(written(board_of(["?" * 8] * 8, 10)), "10" + "/????????" * 8)

    def test_read_again_a_board_is_as_it_was(self):
        for rows, stones in small_boards(100) + great_boards(30) + [(["#"], 0), (["?" * 8] * 8, 64), (["0"], 9)]:
            board = board_of(rows, stones)
            text = written(board)
            self.assertIs(type(text), str)
            self.assertEqual(read(text), board)
            self.assertEqual(written(read(text)), text)


class ReadTest(unittest.TestCase):
    def test_written_out(self):
        self.assertEqual(read("2/1?/??"), (["1?", "??"], 2))
        self.assertEqual(read("0/?"), (["?"], 0))
        self.assertEqual(read("64/#"), (["#"], 64))
        self.assertEqual(read("10" + "/????????" * 8), (["?" * 8] * 8, 10))

    def test_all_numbers_of_stones(self):
        for stones in range(65):
            self.assertEqual(read(str(stones) + "/?1"), (["?1"], stones))

    def test_kinds(self):
        told = read("2/1?/??")
        self.assertIs(type(told), tuple)
        self.assertEqual([type(part) for part in told], [list, int])


class RefusalsTest(unittest.TestCase):
    def refused(self, kind, text):
        with self.subTest(text=text):
            with self.assertRaises(StoneError) as caught:
                read(text)
            self.assertIs(type(caught.exception), kind)
            self.assertIsInstance(caught.exception, ValueError)

    def test_no_text_at_all(self):
        for text in (2, 0, None, True, False, [], ["2/?"], ["2", "?"], ("2/?",), {}, {"2/?": 1}, (["?"], 2)):
            self.refused(NoText, text)

    def test_figures_that_are_none(self):
        for head in (
            "", "00", "01", "007", "0000", "12345", "00002", "10000", "+2", "-2", "-0", " 2", "2 ", "\n2", "2\n",
            "2\n2", "2.0", "2,", "1e1", "1_0", "x", "?", "#", "a2", "2a", "two", "~", "'2'", "0x2", " ", "\n",
        ):
            for rest in ("/?", "/1?/??", "/", "//", "/9", "/??/?", "/" + "?" * 9):
                # The figures are looked at first, whatever the rows.
                self.refused(NoText, head + rest)

    def test_no_stroke(self):
        for text in ("", "2", "0", "64", "99", "2?", "?", "2\\?", "2|?", "2 ?", "2\n?", "2-?", "\n", " "):
            self.refused(NoText, text)

    def test_rows_that_are_none(self):
        for text in (
            "2/", "2//", "2//?", "2/?/", "2/?//?", "2/??/?", "2/?/??", "2/9", "2/?o", "2/.", "2/? ", "2/ ?", "2/?\n",
            "2/\n", "2/?/?\n", "2/?\n/?", "2/" + "?" * 9, "2" + "/?" * 9, "0/", "2/?,?", "2/-1", "2/+", "2/a",
        ):
            self.refused(NoBoard, text)

    def test_stones_beyond(self):
        for stones in (65, 66, 99, 100, 999, 1000, 9999):
            self.refused(NoCount, str(stones) + "/?")
            self.refused(NoCount, str(stones) + "/1?/??")
            self.refused(NoCount, str(stones) + "/#")

    def test_rows_go_ahead_of_stones(self):
        for rest in ("/", "/?/", "/??/?", "/9", "/?\n", "/" + "?" * 9, "/?" * 9):
            self.refused(NoBoard, "65" + rest)
            self.refused(NoBoard, "9999" + rest)
            self.refused(NoText, "10000" + rest)


class OwnListsTest(unittest.TestCase):
    def test_nothing_handed_in_is_changed(self):
        board = board_of(["1?", "??"], 2)
        written(board)
        self.assertEqual(board, (["1?", "??"], 2))

    def test_what_is_given_is_the_askers_own(self):
        told = read("2/1?/??")
        told[0].clear()
        self.assertEqual(read("2/1?/??"), (["1?", "??"], 2))

    def test_a_board_that_was_changed_is_written_as_it_is_now(self):
        board = board_of(["1?", "??"], 2)
        text = written(board)
        board[0][1] = "?#"
        self.assertEqual(text, "2/1?/??")
        self.assertEqual(written(board), "2/1?/?#")


if __name__ == "__main__":
    unittest.main()
