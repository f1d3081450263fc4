"""Points 5, 6 and 7, and of point 2 what is told of boards."""

import unittest

from stonelay.boards import around, board_of, closed, number_at, open_cells, opened
from stonelay.errors import NoBoard, NoCount, StoneError

ROWS = ["1?#", "?2?", "#?0"]


class RefusalsTest(unittest.TestCase):
    def refused(self, kind, rows, stones):
        with self.subTest(rows=rows, stones=stones):
            with self.assertRaises(StoneError) as caught:
                board_of(rows, stones)
            self.assertIs(type(caught.exception), kind)
            self.assertIsInstance(caught.exception, ValueError)

    def test_rows_that_are_none(self):
        for rows in (
            [], ["?"] * 9, [""], ["", ""], ["??", ""], ["?" * 9], ["?" * 9] * 2,
            ["??", "?"], ["?", "??"], ["??", "??", "???"], ["??", "?" * 9],
            ["9"], ["?9"], ["??", "?9"], ["?o"], ["a?"], ["?z?"], ["."], ["o"],
            ["? "], [" "], ["?\n"], ["\n"], ["-1"], ["?/?"], ["~"], ["A"], ["@"], [":"], ["!"], ["$"],
        ):
            # The rows are looked at first, whatever the number of stones.
            for stones in (0, 1, 64, -1, 65, 10 ** 999, -10 ** 999):
                self.refused(NoBoard, rows, stones)

    def test_every_sign_that_is_none(self):
        for sign in map(chr, range(ord(" "), ord("~") + 1)):
            if sign not in "?012345678#":
                self.refused(NoBoard, ["?" + sign], 1)

    def test_stones_that_are_too_few_or_too_many(self):
        for rows in (["?"], ROWS, ["#"], ["?" * 8] * 8):
            for stones in (-1, 65, -64, 66, 1000, 10 ** 999, -10 ** 999):
                self.refused(NoCount, rows, stones)

    def test_stones_that_are_allowed(self):
        for rows in (["?"], ROWS, ["#"], ["?" * 8] * 8):
            for stones in (0, 1, 63, 64):
                self.assertEqual(board_of(rows, stones), (rows, stones))


class BoardOfTest(unittest.TestCase):
    def test_is_a_tuple_of_rows_and_stones(self):
        board = board_of(ROWS, 2)
        self.assertIs(type(board), tuple)
        self.assertEqual(board, (["1?#", "?2?", "#?0"], 2))
        self.assertIs(type(board[0]), list)

    def test_all_signs_and_lengths(self):
        for sign in "?012345678#":
            self.assertEqual(board_of([sign], 0), ([sign], 0))
        for height in range(1, 9):
            for width in range(1, 9):
                rows = ["?" * width] * height
                self.assertEqual(board_of(rows, 1), (rows, 1))

    def test_what_is_done_to_the_rows_later_changes_nothing(self):
        rows = list(ROWS)
        board = board_of(rows, 2)
        rows[0] = "000"
        rows.append("???")
        self.assertEqual(board, (ROWS, 2))

    def test_what_is_done_to_the_board_later_changes_no_rows(self):
        rows = list(ROWS)
        first = board_of(rows, 2)
        second = board_of(rows, 2)
        first[0].clear()
        self.assertEqual(rows, ROWS)
        self.assertEqual(second, (ROWS, 2))

    def test_the_rows_of_a_board_may_be_handed_in_again(self):
        first = board_of(ROWS, 2)
        second = board_of(first[0], 3)
        second[0][0] = "888"
        self.assertEqual(first, (ROWS, 2))


class CellsTest(unittest.TestCase):
    def test_closed_and_open(self):
        board = board_of(ROWS, 2)
        self.assertEqual(closed(board), [(0, 1), (1, 0), (1, 2), (2, 1)])
        self.assertEqual(open_cells(board), [(0, 0), (1, 1), (2, 2)])

    def test_rows_from_the_top_columns_from_the_left(self):
        board = board_of(["?00", "00#"], 0)
        self.assertEqual(closed(board), [(0, 0)])
        self.assertEqual(open_cells(board), [(0, 1), (0, 2), (1, 0), (1, 1)])

    def test_every_number_is_open(self):
        board = board_of(["01234567", "8#?#?#?#"], 0)
        self.assertEqual(open_cells(board), [(0, column) for column in range(8)] + [(1, 0)])
        self.assertEqual(closed(board), [(1, 2), (1, 4), (1, 6)])

    def test_none_at_all(self):
        self.assertEqual(closed(board_of(["##", "##"], 0)), [])
        self.assertEqual(open_cells(board_of(["##", "##"], 0)), [])
        self.assertEqual(closed(board_of(["0"], 0)), [])
        self.assertEqual(open_cells(board_of(["?"], 0)), [])

    def test_a_full_board_is_sorted(self):
        cells = [(row, column) for row in range(8) for column in range(8)]
        self.assertEqual(closed(board_of(["?" * 8] * 8, 5)), cells)
        self.assertEqual(open_cells(board_of(["0" * 8] * 8, 5)), cells)

    def test_numbers(self):
        board = board_of(["01234567", "8???????"], 3)
        for column in range(8):
            self.assertEqual(number_at(board, (0, column)), column)
        self.assertEqual(number_at(board, (1, 0)), 8)
        self.assertIs(type(number_at(board, (1, 0))), int)
        self.assertEqual(number_at(board_of(ROWS, 2), (1, 1)), 2)


class AroundTest(unittest.TestCase):
    def test_in_the_corners(self):
        board = board_of(["???", "?0?", "???", "???"], 1)
        self.assertEqual(around(board, (0, 0)), [(0, 1), (1, 0), (1, 1)])
        self.assertEqual(around(board, (0, 2)), [(0, 1), (1, 1), (1, 2)])
        self.assertEqual(around(board, (3, 0)), [(2, 0), (2, 1), (3, 1)])
        self.assertEqual(around(board, (3, 2)), [(2, 1), (2, 2), (3, 1)])

    def test_at_the_edges(self):
        board = board_of(["????", "?0??", "????"], 1)
        self.assertEqual(around(board, (0, 1)), [(0, 0), (0, 2), (1, 0), (1, 1), (1, 2)])
        self.assertEqual(around(board, (2, 2)), [(1, 1), (1, 2), (1, 3), (2, 1), (2, 3)])
        self.assertEqual(around(board, (1, 0)), [(0, 0), (0, 1), (1, 1), (2, 0), (2, 1)])
        self.assertEqual(around(board, (1, 3)), [(0, 2), (0, 3), (1, 2), (2, 2), (2, 3)])

    def test_in_the_middle(self):
        board = board_of(["????", "?0??", "????"], 1)
        around_open = [(0, 0), (0, 1), (0, 2), (1, 0), (1, 2), (2, 0), (2, 1), (2, 2)]
        self.assertEqual(around(board, (1, 1)), around_open)
        around_closed = [(0, 1), (0, 2), (0, 3), (1, 1), (1, 3), (2, 1), (2, 2), (2, 3)]
        self.assertEqual(around(board, (1, 2)), around_closed)

    def test_beside_places_without_a_cell(self):
        board = board_of(ROWS, 2)
        self.assertEqual(around(board, (1, 1)), [(0, 0), (0, 1), (1, 0), (1, 2), (2, 1), (2, 2)])
        self.assertEqual(around(board, (0, 1)), [(0, 0), (1, 0), (1, 1), (1, 2)])
        self.assertEqual(around(board_of(["###", "#?#", "###"], 0), (1, 1)), [])

    def test_narrow_boards(self):
        self.assertEqual(around(board_of(["?"], 0), (0, 0)), [])
        self.assertEqual(around(board_of(["???"], 0), (0, 1)), [(0, 0), (0, 2)])
        self.assertEqual(around(board_of(["?", "?", "?"], 0), (1, 0)), [(0, 0), (2, 0)])

    def test_every_cell_of_a_full_board(self):
        board = board_of(["?0?0?0?0"] * 8, 4)
        cells = [(row, column) for row in range(8) for column in range(8)]
        for row, column in cells:
            expected = [
                cell for cell in cells
                if max(abs(cell[0] - row), abs(cell[1] - column)) == 1
            ]
            self.assertEqual(around(board, (row, column)), expected)


class OpenedTest(unittest.TestCase):
    def test_at_no_cell(self):
        board = board_of(ROWS, 2)
        told = opened(board, {})
        self.assertEqual(told, (ROWS, 2))
        told[0][0] = "888"
        self.assertEqual(board, (ROWS, 2))

    def test_at_one_cell(self):
        board = board_of(ROWS, 2)
        self.assertEqual(opened(board, {(1, 2): 0}), (["1?#", "?20", "#?0"], 2))
        self.assertEqual(opened(board, {(1, 2): 8}), (["1?#", "?28", "#?0"], 2))
        self.assertEqual(board, (ROWS, 2))

    def test_at_several_cells(self):
        board = board_of(ROWS, 2)
        numbers = {(2, 1): 3, (0, 1): 0, (1, 0): 8}
        self.assertEqual(opened(board, numbers), (["10#", "82?", "#30"], 2))
        self.assertEqual(board, (ROWS, 2))
        self.assertEqual(numbers, {(2, 1): 3, (0, 1): 0, (1, 0): 8})

    def test_every_number_is_told_in_its_place(self):
        board = board_of(["???", "???", "???"], 2)
        numbers = {(number // 3, number % 3): number for number in range(9)}
        told = opened(board, numbers)
        self.assertEqual(told, (["012", "345", "678"], 2))
        for cell, number in numbers.items():
            self.assertEqual(number_at(told, cell), number)
        self.assertEqual(closed(told), [])

    def test_is_a_board_as_board_of_gives_them(self):
        told = opened(board_of(ROWS, 2), {(0, 1): 1})
        self.assertIs(type(told), tuple)
        self.assertIs(type(told[0]), list)
        self.assertEqual(told, board_of(["11#", "?2?", "#?0"], 2))
        self.assertEqual(closed(told), [(1, 0), (1, 2), (2, 1)])
        self.assertEqual(open_cells(told), [(0, 0), (0, 1), (1, 1), (2, 2)])

    def test_one_after_another(self):
        board = board_of(ROWS, 2)
        first = opened(board, {(0, 1): 1})
        second = opened(first, {(2, 1): 1})
        self.assertEqual(first, (["11#", "?2?", "#?0"], 2))
        self.assertEqual(second, (["11#", "?2?", "#10"], 2))

    def test_what_is_done_later_changes_nothing(self):
        board = board_of(ROWS, 2)
        numbers = {(0, 1): 1}
        told = opened(board, numbers)
        numbers[(1, 0)] = 5
        board[0][2] = "###"
        self.assertEqual(told, (["11#", "?2?", "#?0"], 2))


class OwnListsTest(unittest.TestCase):
    def test_nothing_handed_in_is_changed(self):
        board = board_of(ROWS, 2)
        closed(board)
        open_cells(board)
        around(board, (1, 1))
        number_at(board, (1, 1))
        self.assertEqual(board, (ROWS, 2))

    def test_lists_given_are_the_askers_own(self):
        board = board_of(ROWS, 2)
        for ask in (closed, open_cells, lambda board: around(board, (1, 1))):
            first = ask(board)
            kept = list(first)
            second = ask(board)
            first.append((9, 9))
            first[0] = (7, 7)
            self.assertEqual(second, kept)
            self.assertEqual(ask(board), kept)
            self.assertEqual(board, (ROWS, 2))

    def test_lists_given_stay_when_the_board_is_changed(self):
        board = board_of(ROWS, 2)
        hidden = closed(board)
        shown = open_cells(board)
        near = around(board, (0, 1))
        board[0][0] = "###"
        self.assertEqual(hidden, [(0, 1), (1, 0), (1, 2), (2, 1)])
        self.assertEqual(shown, [(0, 0), (1, 1), (2, 2)])
        self.assertEqual(near, [(0, 0), (1, 0), (1, 1), (1, 2)])
        # What is asked of the changed board is answered from what it holds now.
        self.assertEqual(closed(board), [(1, 0), (1, 2), (2, 1)])


if __name__ == "__main__":
    unittest.main()
