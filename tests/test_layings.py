"""Points 8, 9 and 10, and of point 2 what is told of layings."""

import itertools
import unittest

from byhand import layings_by_hand, small_boards
from stonelay.boards import board_of
from stonelay.errors import StoneError, TooGreat
from stonelay.layings import is_laying, layings, why_none

# A small board: a 1 in the corner, a 2 in the middle, a place without a cell.
ROWS = ["1?#", "?2?", "???"]
HUGE = 10 ** 999


class IsLayingTest(unittest.TestCase):
    def setUp(self):
        self.board = board_of(ROWS, 3)

    def check(self, cells, told):
        with self.subTest(cells=cells):
            self.assertIs(is_laying(self.board, cells), told)

    def test_layings(self):
        self.board = board_of(ROWS, 2)
        self.check([(0, 1), (1, 2)], True)
        self.check([(0, 1), (2, 0)], True)
        self.check([(1, 0), (2, 2)], True)

    def test_another_order(self):
        self.board = board_of(ROWS, 2)
        self.check([(1, 2), (0, 1)], False)

    def test_a_cell_twice(self):
        self.board = board_of(["1??"], 2)
        self.check([(0, 1), (0, 2)], True)
        self.check([(0, 1), (0, 1)], False)
        self.check([(0, 1), (0, 1), (0, 2)], False)
        self.check([(0, 1), (0, 2), (0, 2)], False)

    def test_too_few_and_too_many(self):
        self.board = board_of(["1???"], 2)
        self.check([(0, 1), (0, 2)], True)
        self.check([(0, 1), (0, 3)], True)
        self.check([(0, 1)], False)
        self.check([(0, 1), (0, 2), (0, 3)], False)
        self.board = board_of(["???"], 2)
        self.check([], False)
        self.check([(0, 0)], False)
        self.check([(0, 0), (0, 1), (0, 2)], False)

    def test_cells_that_are_not_closed(self):
        self.board = board_of(["0#?", "###"], 1)
        self.check([(0, 2)], True)
        self.check([(0, 0)], False)
        self.check([(0, 1)], False)
        for cell in (
            (-1, 2), (0, -1), (-2, -1), (-2, 2), (0, 3), (2, 0), (2, 2), (HUGE, 0), (0, HUGE), (-HUGE, -HUGE),
        ):
            self.check([cell], False)

    def test_a_wrong_number(self):
        self.board = board_of(["?1?2?"], 2)
        self.check([(0, 2), (0, 4)], True)
        self.check([(0, 0), (0, 2)], False)
        self.check([(0, 0), (0, 4)], False)

    def test_a_wrong_number_with_no_closed_cell_around(self):
        self.board = board_of(["1#?"], 1)
        self.check([(0, 2)], False)

    def test_no_stones(self):
        self.board = board_of(["0??"], 0)
        self.check([], True)
        self.check([(0, 1)], False)
        self.board = board_of(["1??"], 0)
        self.check([], False)
        self.board = board_of(["##"], 0)
        self.check([], True)
        self.board = board_of(["##"], 1)
        self.check([], False)

    def test_stones_around_closed_cells_are_free(self):
        self.board = board_of(["??", "??"], 4)
        self.check([(0, 0), (0, 1), (1, 0), (1, 1)], True)

    def test_a_great_board(self):
        self.board = board_of(["?" * 8] * 8, 64)
        cells = [(row, column) for row in range(8) for column in range(8)]
        self.check(cells, True)
        self.check(cells[1:], False)
        self.check(cells[::-1], False)
        self.check(cells + [(8, 0)], False)


class WhyNoneTest(unittest.TestCase):
    def setUp(self):
        self.board = board_of(["?1?2?", "#####", "???0#"], 3)

    def check(self, cells, told):
        with self.subTest(cells=cells):
            answer = why_none(self.board, cells)
            self.assertEqual(answer, told)
            if told is not None:
                self.assertIs(type(answer), tuple)

    def test_none_for_a_laying(self):
        self.check([(0, 2), (0, 4), (2, 0)], None)
        self.check([(0, 2), (0, 4), (2, 1)], None)
        self.assertIsNone(why_none(self.board, [(0, 2), (0, 4), (2, 1)]))
        self.assertIsNone(why_none(board_of(["#"], 0), []))

    def test_cell(self):
        for cell in (
            (0, 1), (0, 3), (1, 0), (2, 3), (2, 4), (3, 0), (0, 5), (-1, 0), (0, -1), (-3, -5),
            (HUGE, 0), (0, -HUGE),
        ):
            self.check([cell], ("cell", cell))
            self.check([(0, 2), cell, (2, 0)], ("cell", cell))
        self.check([(0, 2), (9, 9), (7, 7)], ("cell", (9, 9)))
        self.check([(0, 2), (7, 7), (9, 9)], ("cell", (7, 7)))

    def test_order(self):
        self.check([(0, 4), (0, 2), (2, 0)], ("order", (0, 2)))
        self.check([(0, 2), (2, 0), (0, 4)], ("order", (0, 4)))
        self.check([(2, 0), (0, 4), (0, 2)], ("order", (0, 4)))
        self.check([(0, 2), (0, 2), (0, 4)], ("order", (0, 2)))
        self.check([(0, 2), (0, 4), (0, 4)], ("order", (0, 4)))
        # Behind the one next ahead, though not behind all.
        self.check([(0, 4), (0, 0), (0, 2)], ("order", (0, 0)))

    def test_many(self):
        self.check([], ("many", 0))
        self.check([(0, 2)], ("many", 1))
        self.check([(0, 2), (0, 4)], ("many", 2))
        self.check([(0, 0), (0, 2), (0, 4), (2, 0)], ("many", 4))

    def test_number(self):
        self.check([(0, 0), (0, 2), (0, 4)], ("number", (0, 1), 2))
        self.check([(0, 4), (2, 0), (2, 1)], ("number", (0, 1), 0))
        self.check([(0, 0), (0, 4), (2, 0)], ("number", (0, 3), 1))
        self.check([(0, 2), (0, 4), (2, 2)], ("number", (2, 3), 1))
        self.assertEqual(why_none(board_of(["1#?"], 1), [(0, 2)]), ("number", (0, 0), 0))
        self.assertEqual(why_none(board_of(["3"], 0), []), ("number", (0, 0), 0))

    def test_number_counts_slantwise_and_not_beyond(self):
        board = board_of(["????", "?8??", "????"], 9)
        cells = [(0, 0), (0, 1), (0, 2), (0, 3), (1, 0), (1, 2), (1, 3), (2, 0), (2, 1)]
        self.assertEqual(why_none(board, cells), ("number", (1, 1), 7))

    def test_cell_ahead_of_order(self):
        self.check([(0, 4), (0, 2), (0, 1)], ("cell", (0, 1)))
        self.check([(0, 2), (0, 2), (8, 8)], ("cell", (8, 8)))

    def test_cell_ahead_of_many(self):
        self.check([(0, 1)], ("cell", (0, 1)))
        self.check([(0, 0), (0, 2), (0, 4), (2, 0), (2, 9)], ("cell", (2, 9)))

    def test_cell_ahead_of_number(self):
        self.check([(0, 0), (0, 2), (1, 4)], ("cell", (1, 4)))

    def test_order_ahead_of_many(self):
        self.check([(0, 4), (0, 2)], ("order", (0, 2)))
        self.check([(0, 2), (0, 2)], ("order", (0, 2)))
        self.check([(0, 2), (0, 4), (2, 0), (2, 0)], ("order", (2, 0)))

    def test_order_ahead_of_number(self):
        self.check([(0, 2), (0, 0), (0, 4)], ("order", (0, 0)))

    def test_many_ahead_of_number(self):
        self.check([(0, 0), (0, 2)], ("many", 2))
        self.check([(2, 2)], ("many", 1))

    def test_the_least_number_is_told(self):
        self.check([(0, 0), (2, 0), (2, 2)], ("number", (0, 3), 0))
        board = board_of(["??", "3?", "2?"], 1)
        self.assertEqual(why_none(board, [(0, 0)]), ("number", (1, 0), 1))

    def test_goes_with_is_laying(self):
        board = board_of(["1?", "?#"], 1)
        cells = [(0, 0), (0, 1), (1, 0), (1, 1), (-1, 0)]
        for size in range(4):
            for row in itertools.product(cells, repeat=size):
                self.assertIs(is_laying(board, list(row)), why_none(board, list(row)) is None)


class LayingsTest(unittest.TestCase):
    def test_a_small_board(self):
        self.assertEqual(layings(board_of(ROWS, 2)), [
            [(0, 1), (1, 2)], [(0, 1), (2, 0)], [(0, 1), (2, 1)], [(0, 1), (2, 2)],
            [(1, 0), (1, 2)], [(1, 0), (2, 0)], [(1, 0), (2, 1)], [(1, 0), (2, 2)],
        ])
        self.assertEqual(layings(board_of(["?1?2?", "#####", "???0#"], 3)), [
            [(0, 2), (0, 4), (2, 0)], [(0, 2), (0, 4), (2, 1)],
        ])

    def test_without_numbers(self):
        self.assertEqual(layings(board_of(["???"], 2)), [
            [(0, 0), (0, 1)], [(0, 0), (0, 2)], [(0, 1), (0, 2)],
        ])
        self.assertEqual(layings(board_of(["??"], 2)), [[(0, 0), (0, 1)]])
        self.assertEqual(layings(board_of(["??"], 0)), [[]])

    def test_no_laying(self):
        self.assertEqual(layings(board_of(["1?1", "###", "?#0"], 0)), [])
        self.assertEqual(layings(board_of(["??"], 3)), [])
        self.assertEqual(layings(board_of(["??"], 64)), [])
        self.assertEqual(layings(board_of(["2?"], 1)), [])
        self.assertEqual(layings(board_of(["1#?"], 1)), [])
        self.assertEqual(layings(board_of(["0?1"], 1)), [])

    def test_no_closed_cell(self):
        self.assertEqual(layings(board_of(["0"], 0)), [[]])
        self.assertEqual(layings(board_of(["#"], 0)), [[]])
        self.assertEqual(layings(board_of(["00", "0#"], 0)), [[]])
        self.assertEqual(layings(board_of(["0"], 1)), [])
        self.assertEqual(layings(board_of(["1"], 0)), [])

    def test_twelve_closed_cells_are_told(self):
        told = layings(board_of(["????", "????", "????"], 6))
        self.assertEqual(len(told), 924)
        self.assertEqual(told, layings_by_hand(["????", "????", "????"], 6))
        self.assertEqual(len(layings(board_of(["????", "????", "????"], 12))), 1)
        rows = ["????", "?2??", "???#", "0#??"]
        self.assertEqual(layings(board_of(rows, 4)), layings_by_hand(rows, 4))

    def test_twelve_closed_cells_on_the_greatest_board(self):
        rows = ["0" * 8] * 5 + ["#" * 8, "?" * 8, "????####"]
        self.assertEqual(layings(board_of(rows, 6)), layings_by_hand(rows, 6))
        # A 0 among the closed ones leaves seven of them out.
        rows = ["#" * 8] * 5 + ["?????###", "??0?####", "????####"]
        self.assertEqual(layings(board_of(rows, 3)), layings_by_hand(rows, 3))

    def test_thirteen_closed_cells_are_refused(self):
        for rows, stones in (
            (["????", "????", "????", "?###"], 6),
            (["?" * 8] * 8, 0),
            (["?" * 8] * 8, 64),
            (["????", "????", "????", "?000"], 0),
            (["?" * 8, "?????#1#"], 1),
            (["?" * 7, "?" * 6 + "8"], 40),
        ):
            with self.subTest(rows=rows, stones=stones):
                with self.assertRaises(StoneError) as caught:
                    layings(board_of(rows, stones))
                self.assertIs(type(caught.exception), TooGreat)
                self.assertIsInstance(caught.exception, ValueError)

    def test_sorted_and_each_sorted(self):
        told = layings(board_of(ROWS, 2))
        self.assertEqual(told, sorted(told))
        for laying in told:
            self.assertIs(type(laying), list)
            self.assertEqual(laying, sorted(laying))

    def test_many_boards_against_the_words(self):
        lengths = []
        for rows, stones in small_boards(500):
            board = board_of(rows, stones)
            told = layings(board)
            self.assertEqual(told, layings_by_hand(rows, stones), (rows, stones))
            for laying in told:
                self.assertTrue(is_laying(board, laying))
            lengths.append(len(told))
        # Else the boards would try too little.
        self.assertGreater(lengths.count(0), 50)
        self.assertGreater(len([length for length in lengths if length > 1]), 100)


class OwnListsTest(unittest.TestCase):
    def test_nothing_handed_in_is_changed(self):
        board = board_of(ROWS, 2)
        cells = [(2, 0), (0, 1), (0, 1)]
        is_laying(board, cells)
        why_none(board, cells)
        layings(board)
        self.assertEqual(board, (ROWS, 2))
        self.assertEqual(cells, [(2, 0), (0, 1), (0, 1)])

    def test_layings_given_are_the_askers_own(self):
        board = board_of(ROWS, 2)
        first = layings(board)
        second = layings(board)
        expected = layings_by_hand(ROWS, 2)
        for laying in first:
            laying.clear()
        first.clear()
        self.assertEqual(second, expected)
        self.assertEqual(layings(board), expected)
        self.assertEqual(board, (ROWS, 2))

    def test_the_empty_laying_is_the_askers_own(self):
        for rows in (["0"], ["0??"], ["#"]):
            board = board_of(rows, 0)
            first = layings(board)
            first[0].append((5, 5))
            first.append([])
            self.assertEqual(layings(board), [[]])
            self.assertIs(is_laying(board, []), True)

    def test_no_list_stands_at_two_places(self):
        told = layings(board_of(["????", "????"], 4))
        self.assertEqual(len({id(laying) for laying in told}), len(told))
        told[0].append((7, 7))
        self.assertEqual(told[1:], layings_by_hand(["????", "????"], 4)[1:])

    def test_what_is_done_to_the_board_later_changes_nothing(self):
        board = board_of(ROWS, 2)
        told = layings(board)
        why = why_none(board, [(0, 1), (1, 0)])
        board[0].clear()
        self.assertEqual(told, layings_by_hand(ROWS, 2))
        self.assertEqual(why, ("number", (0, 0), 2))

    def test_what_is_done_to_the_cells_later_changes_nothing(self):
        board = board_of(ROWS, 2)
        cells = [(0, 1), (5, 5)]
        why = why_none(board, cells)
        cells[1] = (1, 2)
        self.assertEqual(why, ("cell", (5, 5)))
        # The same list, asked anew, is answered from what it holds now.
        self.assertIs(is_laying(board, cells), True)

    def test_a_given_laying_may_be_handed_in(self):
        board = board_of(ROWS, 2)
        laying = layings(board)[0]
        self.assertIs(is_laying(board, laying), True)
        laying.reverse()
        self.assertIs(is_laying(board, laying), False)
        laying.reverse()
        self.assertIs(is_laying(board, laying), True)


if __name__ == "__main__":
    unittest.main()
