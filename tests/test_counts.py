"""Points 16 and 17, the first promise of 3, the refusals of 13, and of point 2 what is told of counts."""

import unittest

from byhand import (
    closed_by_hand, count_by_hand, far_by_hand, great_boards, layings_by_hand, numbers_by_hand, part_layings_by_hand,
    parts_by_hand, small_boards, stones_beside,
)
from stonelay.boards import board_of, closed
from stonelay.counts import count, count_at, near_counts
from stonelay.errors import StoneError, TooGreat
from stonelay.layings import layings
from stonelay.parts import parts

# A part of fifteen cells, two of one cell each, and a far cell.
GREAT = ["????????", "11111111", "???????#", "########", "1?#?1##?"]
FOURTEEN = ["#??##", "?4?##", "?????", "##?4?", "##???"]


def near_counts_by_hand(rows):
    """The near counts: by how many stones all choices of one laying of each part take."""
    sums = [0]
    for part in parts_by_hand(rows):
        sizes = [len(laying) for laying in part_layings_by_hand(rows, part)]
        sums = [many + size for many in sums for size in sizes]
    places = sum(len(part) for part in parts_by_hand(rows)) + 1
    return [sums.count(k) for k in range(places)]


class NearCountsTest(unittest.TestCase):
    def check(self, rows, told):
        with self.subTest(rows=rows):
            self.assertEqual(near_counts(board_of(rows, 1)), told)

    def test_no_part(self):
        self.check(["???", "?#?"], [1])
        self.check(["?" * 8] * 8, [1])
        self.check(["000"], [1])
        self.check(["#"], [1])
        self.check(["3#?"], [1])

    def test_one_part(self):
        self.check(["1?"], [0, 1])
        self.check(["?1?1?"], [0, 1, 1, 0])
        self.check(["?1???"], [0, 2, 0])
        self.check(FOURTEEN, [0] * 7 + [700, 525] + [0] * 6)

    def test_several_parts(self):
        self.check(["1??1"], [0, 0, 1])
        self.check(["?1?#0?"], [0, 2, 0, 0])
        self.check(["?1?1?", "#####", "?1?1?"], [0, 0, 1, 2, 1, 0, 0])
        self.check(["?1?1?", "#####", "?1?##", "#####", "?1?1?"], [0, 0, 0, 2, 4, 2, 0, 0, 0])

    def test_a_part_without_a_laying(self):
        self.check(["2?"], [0, 0])
        self.check(["2?#?1?"], [0, 0, 0, 0])
        self.check(["?1?#?2"], [0, 0, 0, 0])

    def test_bare_wrong_cells_and_stones_do_not_matter(self):
        self.check(["?1?#3"], [0, 2, 0])
        for stones in (0, 1, 64):
            self.assertEqual(near_counts(board_of(["?1?#3"], stones)), [0, 2, 0])

    def test_one_place_for_each_number_of_near_cells_and_one_more(self):
        for rows, stones in small_boards(300) + great_boards(100):
            near = len(closed_by_hand(rows)) - len(far_by_hand(rows))
            self.assertEqual(len(near_counts(board_of(rows, stones))), near + 1, rows)

    def test_against_the_words(self):
        for rows, stones in small_boards(300):
            self.assertEqual(near_counts(board_of(rows, stones)), near_counts_by_hand(rows), rows)


class CountTest(unittest.TestCase):
    def check(self, rows, stones, told):
        """That told is the count, and the counts at all closed cells are those of the layings by hand."""
        with self.subTest(rows=rows, stones=stones):
            board = board_of(rows, stones)
            found = layings_by_hand(rows, stones)
            self.assertEqual(len(found), told)
            self.assertEqual(count(board), told)
            for cell in closed_by_hand(rows):
                self.assertEqual(count_at(board, cell), len([laying for laying in found if cell in laying]), cell)

    def test_parts_and_far_cells(self):
        self.check(["?1??"], 1, 2)
        self.check(["?1??"], 2, 2)
        self.check(["1?#??", "??###"], 2, 6)
        self.check(["?1?1?", "#####", "?????"], 3, 15)
        self.check(["1??1", "####", "????"], 4, 6)

    def test_far_cells_alone(self):
        for stones, told in ((0, 1), (1, 5), (2, 10), (3, 10), (4, 5), (5, 1), (6, 0), (64, 0)):
            self.check(["???", "?#?"], stones, told)
        self.check(["0#???"], 2, 3)

    def test_parts_alone(self):
        self.check(["?1?"], 1, 2)
        self.check(["?1?1?"], 1, 1)
        self.check(["?1?1?"], 2, 1)

    def test_stones_too_few(self):
        self.check(["?1?"], 0, 0)
        self.check(["2?", "??"], 1, 0)
        self.check(["2?#", "??#", "###", "?##"], 1, 0)
        self.check(["1?#?1"], 1, 0)

    def test_stones_too_many(self):
        self.check(["?1?"], 2, 0)
        self.check(["2?", "??"], 3, 0)
        self.check(["1???"], 3, 1)
        self.check(["1???"], 4, 0)
        self.check(["0???"], 3, 0)
        self.check(["1???"], 64, 0)

    def test_no_stones(self):
        self.check(["0??"], 0, 1)
        self.check(["1??"], 0, 0)
        self.check(["???"], 0, 1)

    def test_numbers_that_do_not_fit(self):
        self.check(["2?"], 1, 0)
        self.check(["0?1"], 1, 0)
        self.check(["2?#??"], 2, 0)

    def test_a_wrong_bare_cell(self):
        self.check(["3#??"], 1, 0)
        self.check(["1#??"], 1, 0)
        self.check(["?1?#4"], 1, 0)
        self.check(["?1?#4#??"], 2, 0)
        self.check(["1"], 0, 0)
        self.check(["##", "#2"], 0, 0)
        self.check(["?1?#0"], 1, 2)

    def test_no_closed_cell(self):
        self.check(["0"], 0, 1)
        self.check(["#"], 0, 1)
        self.check(["000", "0#0"], 0, 1)
        self.check(["0"], 1, 0)
        self.check(["#"], 64, 0)

    def test_small_boards_against_the_layings(self):
        boards_with = {"parts and far": 0, "no laying": 0, "several parts": 0, "bare wrong": 0}
        for rows, stones in small_boards(500):
            board = board_of(rows, stones)
            found = layings(board)
            self.check(rows, stones, len(found))
            boards_with["parts and far"] += parts_by_hand(rows) != [] and far_by_hand(rows) != []
            boards_with["several parts"] += len(parts_by_hand(rows)) > 1
            boards_with["no laying"] += found == []
            boards_with["bare wrong"] += any(
                number != 0 and stones_beside(cell, closed_by_hand(rows)) == 0
                for cell, number in numbers_by_hand(rows).items()
            )
        # Else the boards would try too little.
        for kind, many in boards_with.items():
            self.assertGreater(many, 0, kind)

    def test_great_boards_against_going_cell_by_cell(self):
        counts = []
        for place, (rows, stones) in enumerate(great_boards(80)):
            board = board_of(rows, stones)
            self.assertEqual(count(board), count_by_hand(rows, stones), (rows, stones))
            for cell in closed_by_hand(rows)[place % 7::7]:
                told = count_at(board, cell)
                self.assertEqual(told, count_by_hand(rows, stones, cell), (rows, stones, cell))
            counts.append(count(board))
        self.assertGreater(len([many for many in counts if many > 10 ** 6]), 10)

    def test_all_counts_at_cells_are_the_stones_times_the_count(self):
        for rows, stones in great_boards(80) + [(FOURTEEN, 7), (FOURTEEN, 8), (FOURTEEN, 9)]:
            board = board_of(rows, stones)
            together = sum(count_at(board, cell) for cell in closed(board))
            self.assertEqual(together, stones * count(board), (rows, stones))

    def test_sixty_four_closed_cells(self):
        rows = ["?" * 8] * 8
        board = board_of(rows, 32)
        self.assertEqual(count(board), 1832624140942590534)
        for cell in closed(board):
            self.assertEqual(count_at(board, cell), 916312070471295267)
        for stones, told, at in ((0, 1, 0), (1, 64, 1), (2, 2016, 63), (63, 64, 63), (64, 1, 1)):
            board = board_of(rows, stones)
            self.assertEqual(count(board), told)
            self.assertEqual(count_at(board, (0, 0)), at)
            self.assertEqual(count_at(board, (7, 7)), at)

    def test_a_part_of_fourteen_cells(self):
        self.assertEqual(count(board_of(FOURTEEN, 7)), 700)
        self.assertEqual(count(board_of(FOURTEEN, 8)), 525)
        self.assertEqual(count_at(board_of(FOURTEEN, 7), (2, 2)), 700)
        self.assertEqual(count_at(board_of(FOURTEEN, 8), (2, 2)), 0)
        rows = [row + "#??" for row in FOURTEEN]
        # Ten far cells besides.
        self.assertEqual(count(board_of(rows, 9)), 700 * 45 + 525 * 10)
        self.assertEqual(count_at(board_of(rows, 9), (0, 7)), 700 * 9 + 525)
        self.assertEqual(count_at(board_of(rows, 9), (2, 2)), 700 * 45)

    def test_whole_numbers(self):
        for rows, stones in ((["?1?"], 1), (["?1?"], 0), (["2?"], 1), (["3#?"], 0), (["??"], 1), (["0"], 0)):
            board = board_of(rows, stones)
            self.assertIs(type(count(board)), int)
            for cell in closed(board):
                self.assertIs(type(count_at(board, cell)), int)


class TooGreatTest(unittest.TestCase):
    def refused(self, ask, *args):
        with self.subTest(ask=ask.__name__, args=args):
            with self.assertRaises(StoneError) as caught:
                ask(*args)
            self.assertIs(type(caught.exception), TooGreat)
            self.assertIsInstance(caught.exception, ValueError)

    def all_refused(self, rows):
        self.assertIn(15, [len(part) for part in parts_by_hand(rows)])
        for stones in (0, 4, 10, 64):
            board = board_of(rows, stones)
            self.refused(near_counts, board)
            self.refused(count, board)
            # Cells of the great part, of other parts and far ones alike.
            for cell in closed_by_hand(rows):
                self.refused(count_at, board, cell)

    def test_a_great_part_alone(self):
        self.all_refused(GREAT[:3])

    def test_a_great_part_with_others_and_a_far_cell(self):
        self.all_refused(GREAT)
        self.all_refused(GREAT[::-1])
        self.assertEqual(len(far_by_hand(GREAT)), 1)
        self.assertEqual([len(part) for part in parts(board_of(GREAT, 1))], [15, 1, 1])
        self.assertEqual([len(part) for part in parts(board_of(GREAT[::-1], 1))], [1, 1, 15])

    def test_also_where_a_bare_open_cell_is_wrong(self):
        self.all_refused(GREAT + ["########", "3#1#0###"])
        self.all_refused(["3#1#0###", "########"] + GREAT)

    def test_also_where_another_part_has_no_laying(self):
        self.all_refused(["2?######", "########"] + GREAT)
        self.all_refused(["????????", "88888888", "???????#"])

    def test_fourteen_cells_are_told(self):
        rows = ["???????#", "1111111#", "???????#", "########", "1?#?1##?"]
        self.assertEqual([len(part) for part in parts(board_of(rows, 5))], [14, 1, 1])
        for stones in (4, 5, 6):
            board = board_of(rows, stones)
            self.assertEqual(count(board), count_by_hand(rows, stones))
            self.assertEqual(count_at(board, (4, 7)), count_by_hand(rows, stones, (4, 7)))
        self.assertEqual(near_counts(board_of(rows, 5)), near_counts_by_hand(rows))

    def test_several_parts_of_together_more_than_fourteen_are_told(self):
        rows = ["???#???#", "?3?#?4?#", "???#???#", "########", "???#???#", "?2?#?1?#", "???#???#"]
        board = board_of(rows, 10)
        self.assertEqual(count(board), 56 * 70 * 28 * 8)
        self.assertEqual(count_at(board, (0, 0)), 21 * 70 * 28 * 8)
        self.assertEqual(count_at(board, (4, 4)), 56 * 70 * 28)
        self.assertEqual(near_counts(board), [0] * 10 + [56 * 70 * 28 * 8] + [0] * 22)


class OwnListsTest(unittest.TestCase):
    ROWS = ["?1?1?", "#####", "1?#??"]

    def test_nothing_handed_in_is_changed(self):
        board = board_of(self.ROWS, 3)
        near_counts(board)
        count(board)
        for cell in closed(board):
            count_at(board, cell)
        self.assertEqual(board, (self.ROWS, 3))

    def test_near_counts_given_are_the_askers_own(self):
        for rows in (self.ROWS, ["1?"], ["??"], ["#"], ["2?"]):
            board = board_of(rows, 1)
            before = near_counts_by_hand(rows)
            told = near_counts(board)
            other = near_counts(board)
            told[0] = 99
            told.append(99)
            self.assertEqual(other, before)
            self.assertEqual(near_counts(board), before)
            self.assertEqual(count(board), count_by_hand(rows, 1))
            self.assertEqual(board, (rows, 1))

    def test_what_is_done_to_the_board_later_changes_nothing(self):
        board = board_of(self.ROWS, 3)
        told = near_counts(board)
        board[0].clear()
        self.assertEqual(told, near_counts_by_hand(self.ROWS))

    def test_a_board_that_was_changed_is_answered_as_it_is_now(self):
        board = board_of(self.ROWS, 3)
        self.assertEqual(count(board), count_by_hand(self.ROWS, 3))
        board[0][0] = "?????"
        rows = ["?????"] + self.ROWS[1:]
        self.assertEqual(count(board), count_by_hand(rows, 3))
        self.assertEqual(count_at(board, (0, 2)), count_by_hand(rows, 3, (0, 2)))
        self.assertEqual(near_counts(board), near_counts_by_hand(rows))


if __name__ == "__main__":
    unittest.main()
