"""Points 11 and 12, and of point 2 what is told of parts."""

import unittest

from byhand import (
    closed_by_hand, far_by_hand, great_boards, numbers_by_hand, numbers_of_part_by_hand, parts_by_hand, small_boards,
    stones_beside,
)
from stonelay.boards import board_of
from stonelay.parts import bare_wrong, far, numbers_of, parts

# Two parts that lie apart, a far cell, a wrong bare cell and one that is bare and right.
ROWS = ["1?#?1", "?##??", "####?", "2#0#?"]


class PartsTest(unittest.TestCase):
    def check(self, rows, told):
        with self.subTest(rows=rows):
            self.assertEqual(parts(board_of(rows, 1)), told)

    def test_two_parts(self):
        self.check(ROWS, [[(0, 1), (1, 0)], [(0, 3), (1, 3), (1, 4)]])

    def test_no_open_cell(self):
        self.check(["???", "?#?"], [])
        self.check(["?" * 8] * 8, [])
        self.check(["?"], [])

    def test_no_closed_cell(self):
        self.check(["012", "#80"], [])
        self.check(["0" * 8] * 8, [])
        self.check(["#"], [])

    def test_cells_that_touch_are_not_joined_by_that(self):
        self.check(["1??1"], [[(0, 1)], [(0, 2)]])
        self.check(["1?", "##", "?1"], [[(0, 1)], [(2, 0)]])
        self.check(["1??", "???", "??1"], [[(0, 1), (1, 0), (1, 1), (1, 2), (2, 1)]])
        self.check(["1??##", "#####", "##?1#"], [[(0, 1)], [(2, 2)]])
        self.check(["0#0", "??#", "##?", "##0"], [[(1, 0), (1, 1)], [(2, 2)]])

    def test_parts_that_one_open_cell_joins(self):
        self.check(["?1?"], [[(0, 0), (0, 2)]])
        self.check(["?##", "#1#", "##?"], [[(0, 0), (2, 2)]])
        self.check(["???", "?8?", "???"], [[(0, 0), (0, 1), (0, 2), (1, 0), (1, 2), (2, 0), (2, 1), (2, 2)]])

    def test_parts_that_only_a_row_of_open_cells_joins(self):
        self.check(["?1?1?1?"], [[(0, 0), (0, 2), (0, 4), (0, 6)]])
        self.check(["?#", "0#", "?#", "0#", "?#", "#0", "?#"], [[(0, 0), (2, 0), (4, 0), (6, 0)]])
        self.check(["?0#", "#?#", "##0", "?0?"], [[(0, 0), (1, 1), (3, 0), (3, 2)]])

    def test_an_open_cell_without_a_closed_one_between_joins_nothing(self):
        self.check(["?000?"], [[(0, 0)], [(0, 4)]])
        self.check(["?00?"], [[(0, 0)], [(0, 3)]])

    def test_a_later_open_cell_joins_what_was_apart(self):
        self.check(["1?#?1", "##2##"], [[(0, 1), (0, 3)]])
        self.check(["1?#?1", "#####", "##2##"], [[(0, 1)], [(0, 3)]])
        # Three at once, and one that stays by itself.
        self.check(["#0####1?", "##?#0###", "0#3?####", "#?######"], [[(0, 7)], [(1, 2), (2, 3), (3, 1)]])
        self.check(["?0#0?", "##0##", "?#1#?"], [[(0, 0)], [(0, 4)]])

    def test_a_place_without_a_cell_parts(self):
        self.check(["1#?"], [])
        self.check(["?#1#?"], [])
        self.check(["1?#?1"], [[(0, 1)], [(0, 3)]])

    def test_parts_are_sorted_whatever_the_order_of_the_open_cells(self):
        self.check(["1##?", "?##1"], [[(0, 3)], [(1, 0)]])
        self.check(["0#?", "?#0", "###", "?0?"], [[(0, 2)], [(1, 0)], [(3, 0), (3, 2)]])

    def test_each_part_is_sorted(self):
        self.check(["##?", "?1#", "?##"], [[(0, 2), (1, 0), (2, 0)]])
        self.check(["##0?", "?0##", "?0??"], [[(0, 3)], [(1, 0), (2, 0), (2, 2)]])
        self.check(["0#?", "?##", "#1#"], [[(1, 0)]])
        self.check(["0#0?", "?###", "?#1?"], [[(0, 3)], [(1, 0)], [(2, 3)]])
        self.check(["1##", "?#?", "?1#"], [[(1, 0), (1, 2), (2, 0)]])

    def test_great_parts_are_told_too(self):
        rows = ["????????", "11111111", "????????"]
        self.check(rows, [closed_by_hand(rows)])
        rows = ["?0?0?0?0", "0?0?0?0?"] * 4
        self.check(rows, [closed_by_hand(rows)])

    def test_against_the_words(self):
        for rows, stones in small_boards(400) + great_boards(100):
            self.assertEqual(parts(board_of(rows, stones)), parts_by_hand(rows), rows)


class FarTest(unittest.TestCase):
    def check(self, rows, told):
        with self.subTest(rows=rows):
            self.assertEqual(far(board_of(rows, 1)), told)

    def test_far_cells(self):
        self.check(ROWS, [(2, 4), (3, 4)])
        self.check(["1???"], [(0, 2), (0, 3)])
        self.check(["???", "???", "??0"], [(0, 0), (0, 1), (0, 2), (1, 0), (2, 0)])

    def test_a_place_without_a_cell_between(self):
        self.check(["1#?"], [(0, 2)])
        self.check(["?#1"], [(0, 0)])

    def test_all_far_without_an_open_cell(self):
        self.check(["???", "?#?"], [(0, 0), (0, 1), (0, 2), (1, 0), (1, 2)])
        self.check(["?" * 8] * 8, [(row, column) for row in range(8) for column in range(8)])

    def test_none_far(self):
        self.check(["1?", "??"], [])
        self.check(["12", "#0"], [])
        self.check(["##"], [])

    def test_against_the_words(self):
        for rows, stones in small_boards(400) + great_boards(100):
            board = board_of(rows, stones)
            self.assertEqual(far(board), far_by_hand(rows), rows)
            self.assertEqual(sorted(far(board) + sum(parts(board), [])), closed_by_hand(rows))


class NumbersOfTest(unittest.TestCase):
    def check(self, rows, told):
        with self.subTest(rows=rows):
            board = board_of(rows, 1)
            self.assertEqual([numbers_of(board, part) for part in parts(board)], told)

    def test_numbers(self):
        self.check(ROWS, [[(0, 0)], [(0, 4)]])
        self.check(["?1?1?1?"], [[(0, 1), (0, 3), (0, 5)]])
        self.check(["???", "?8?", "???"], [[(1, 1)]])

    def test_open_cells_with_but_one_cell_of_the_part_around(self):
        self.check(["1?#"], [[(0, 0)]])
        self.check(["2?1", "?##", "1##"], [[(0, 0), (0, 2), (2, 0)]])
        self.check(["#?1?1", "1####"], [[(0, 2), (0, 4), (1, 0)]])

    def test_bare_open_cells_are_none_of_them(self):
        self.check(["?10"], [[(0, 1)]])
        self.check(["?1#0?"], [[(0, 1)], [(0, 3)]])

    def test_several_parts_with_their_numbers_in_turns(self):
        self.check(["?1#1?", "1###1", "#####", "0?#?0"], [
            [(0, 1), (1, 0)], [(0, 3), (1, 4)], [(3, 0)], [(3, 4)],
        ])

    def test_against_the_words(self):
        for rows, stones in small_boards(400) + great_boards(100):
            board = board_of(rows, stones)
            for part in parts(board):
                told = numbers_of(board, part)
                self.assertEqual(told, numbers_of_part_by_hand(rows, part), rows)
                for cell in told:
                    self.assertEqual(
                        stones_beside(cell, part), stones_beside(cell, closed_by_hand(rows)), (rows, cell),
                    )


class BareWrongTest(unittest.TestCase):
    def check(self, rows, told):
        with self.subTest(rows=rows):
            self.assertEqual(bare_wrong(board_of(rows, 1)), told)

    def test_bare_cells_that_tell_0(self):
        self.check(["0"], [])
        self.check(["000", "0#0", "000"], [])
        self.check(["0#?"], [])

    def test_bare_cells_that_tell_another_number(self):
        for number in "12345678":
            self.check([number], [(0, 0)])
            self.check(["0" + number + "#?"], [(0, 1)])
        self.check(ROWS, [(3, 0)])
        self.check(["203", "#0#", "1#8"], [(0, 0), (0, 2), (2, 0), (2, 2)])

    def test_an_open_cell_with_no_place_of_a_cell_around(self):
        self.check(["1#", "##"], [(0, 0)])
        self.check(["0#", "##"], [])
        self.check(["###", "#4#", "###"], [(1, 1)])
        self.check(["4"], [(0, 0)])

    def test_cells_that_are_not_bare(self):
        self.check(["8?"], [])
        self.check(["?##", "#8#", "###"], [])
        self.check(["1?", "5#"], [])

    def test_no_open_cell(self):
        self.check(["??"], [])
        self.check(["#"], [])

    def test_against_the_words(self):
        found = 0
        for rows, stones in small_boards(400) + great_boards(100):
            wrong = [
                cell for cell, number in numbers_by_hand(rows).items()
                if number != 0 and stones_beside(cell, closed_by_hand(rows)) == 0
            ]
            self.assertEqual(bare_wrong(board_of(rows, stones)), wrong, rows)
            found += len(wrong)
        # Else the boards would try too little.
        self.assertGreater(found, 0)


class OwnListsTest(unittest.TestCase):
    def ask(self, board, part):
        return [parts(board), far(board), numbers_of(board, part), bare_wrong(board)]

    def test_nothing_handed_in_is_changed(self):
        board = board_of(ROWS, 2)
        part = [(0, 3), (1, 3), (1, 4)]
        self.ask(board, part)
        self.assertEqual(board, (ROWS, 2))
        self.assertEqual(part, [(0, 3), (1, 3), (1, 4)])

    def test_lists_given_are_the_askers_own(self):
        for rows in (ROWS, ["?1#"], ["??"], ["00"], ["#"], ["1?1", "#?#"]):
            board = board_of(rows, 1)
            part = parts_by_hand(rows)[0] if parts_by_hand(rows) else []
            before = self.ask(board, part)
            told = self.ask(board, part)
            for cells in told[0]:
                cells.append((9, 9))
            for cells in told:
                cells.append((9, 9))
                cells.reverse()
            self.assertEqual(self.ask(board, part), before)
            self.assertEqual(board, (rows, 1))

    def test_no_list_stands_at_two_places(self):
        board = board_of(["1??1", "####", "0?#0"], 1)
        told = parts(board)
        self.assertEqual(len({id(part) for part in told}), 3)
        told[0].append((9, 9))
        self.assertEqual(told[1:], [[(0, 2)], [(2, 1)]])

    def test_what_is_done_to_the_board_later_changes_nothing(self):
        board = board_of(ROWS, 1)
        part = parts(board)[0]
        told = self.ask(board, part)
        expected = self.ask(board_of(ROWS, 1), list(part))
        board[0].clear()
        part.clear()
        self.assertEqual(told, expected)

    def test_a_board_that_was_changed_is_answered_as_it_is_now(self):
        board = board_of(["1?#?"], 1)
        self.assertEqual(far(board), [(0, 3)])
        board[0][0] = "1??1"
        self.assertEqual(parts(board), [[(0, 1)], [(0, 2)]])
        self.assertEqual(far(board), [])


if __name__ == "__main__":
    unittest.main()
