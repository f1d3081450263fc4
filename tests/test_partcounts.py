"""Points 13 and 14, as far as they speak of one part, and of point 2 what is told of its layings and counts."""

import unittest

from byhand import great_boards, part_layings_by_hand, small_boards
from stonelay.boards import board_of
from stonelay.errors import StoneError, TooGreat
from stonelay.partcounts import part_counts, part_counts_at, part_layings
from stonelay.parts import parts

# One part of five cells with two numbers, and one of two.
ROWS = ["?1?", "?#2", "??#", "###", "1?#", "?##"]
FOURTEEN = ["#??##", "?4?##", "?????", "##?4?", "##???"]
FIFTEEN = ["???##", "?4?##", "?????", "##?4?", "##???"]


def only_part(board):
    found = parts(board)
    assert len(found) == 1, found
    return found[0]


class PartLayingsTest(unittest.TestCase):
    def check(self, rows, told):
        with self.subTest(rows=rows):
            board = board_of(rows, 0)
            self.assertEqual([part_layings(board, part) for part in parts(board)], told)

    def test_small_parts(self):
        self.check(["1?"], [[[(0, 1)]]])
        self.check(["0?"], [[[]]])
        self.check(["?1?"], [[[(0, 0)], [(0, 2)]]])
        self.check(["1?1", "#?#"], [[[(0, 1)], [(1, 1)]]])
        self.check(["?1?2?"], [[[(0, 2), (0, 4)]]])

    def test_layings_of_unlike_length_are_sorted(self):
        self.check(["?1?1?"], [[[(0, 0), (0, 4)], [(0, 2)]]])
        self.check(["#1?1?", "?####"], [[[(0, 2)], [(0, 4), (1, 0)]]])

    def test_each_part_by_itself(self):
        self.check(["1??2", "####", "0?##"], [[[(0, 1)]], [], [[]]])
        self.check(["1?#?0"], [[[(0, 1)]], [[]]])

    def test_a_part_without_a_laying(self):
        self.check(["2?"], [[]])
        self.check(["0?1"], [[]])
        self.check(["8?1?"], [[]])
        self.check(["?0?1?0?"], [[]])
        # Each number can be kept to, but not both.
        self.check(["1?#", "?4?", "#?#"], [[]])
        self.check(["1?#", "?3?", "#?#"], [[[(0, 1), (1, 2), (2, 1)], [(1, 0), (1, 2), (2, 1)]]])

    def test_the_number_of_all_stones_does_not_matter(self):
        for stones in (0, 1, 5, 64):
            board = board_of(["?1?"], stones)
            self.assertEqual(part_layings(board, [(0, 0), (0, 2)]), [[(0, 0)], [(0, 2)]])
            self.assertEqual(part_counts(board, [(0, 0), (0, 2)]), [0, 2, 0])

    def test_bare_wrong_cells_and_far_cells_do_not_matter(self):
        self.check(["?1?#3#??"], [[[(0, 0)], [(0, 2)]]])

    def test_eight_around(self):
        board = board_of(["???", "?8?", "???"], 0)
        part = only_part(board)
        self.assertEqual(part_layings(board, part), [part])
        self.assertEqual(len(part_layings(board_of(["???", "?4?", "???"], 0), part)), 70)
        self.assertEqual(part_layings(board_of(["???", "?0?", "???"], 0), part), [[]])

    def test_lists_of_tuples(self):
        board = board_of(ROWS, 0)
        for part in parts(board):
            told = part_layings(board, part)
            self.assertIs(type(told), list)
            self.assertEqual(told, sorted(told))
            for laying in told:
                self.assertIs(type(laying), list)
                self.assertEqual(laying, sorted(laying))

    def test_fourteen_cells(self):
        board = board_of(FOURTEEN, 8)
        part = only_part(board)
        self.assertEqual(len(part), 14)
        self.assertEqual(part_layings(board, part), part_layings_by_hand(FOURTEEN, part))
        rows = ["???????", "1222221", "???????"]
        part = only_part(board_of(rows, 0))
        self.assertEqual(len(part), 14)
        self.assertEqual(part_layings(board_of(rows, 0), part), part_layings_by_hand(rows, part))

    def test_against_the_words(self):
        lengths = []
        for rows, stones in small_boards(400) + [pair for pair in great_boards(40) if "#" in "".join(pair[0])]:
            board = board_of(rows, stones)
            for part in parts(board):
                told = part_layings(board, part)
                self.assertEqual(told, part_layings_by_hand(rows, part), rows)
                lengths.append(len(told))
        # Else the boards would try too little.
        self.assertGreater(lengths.count(0), 10)
        self.assertGreater(len([length for length in lengths if length > 1]), 100)


class PartCountsTest(unittest.TestCase):
    def check(self, rows, told):
        with self.subTest(rows=rows):
            board = board_of(rows, 0)
            self.assertEqual([part_counts(board, part) for part in parts(board)], told)

    def test_small_parts(self):
        self.check(["1?"], [[0, 1]])
        self.check(["0?"], [[1, 0]])
        self.check(["?1?"], [[0, 2, 0]])
        self.check(["?1?1?"], [[0, 1, 1, 0]])
        self.check(["???", "?4?", "???"], [[0, 0, 0, 0, 70, 0, 0, 0, 0]])
        self.check(["???", "?8?", "???"], [[0, 0, 0, 0, 0, 0, 0, 0, 1]])

    def test_a_part_without_a_laying(self):
        self.check(["2?"], [[0, 0]])
        self.check(["0?1"], [[0, 0]])
        self.check(["?0?1?0?"], [[0, 0, 0, 0, 0]])

    def test_each_part_by_itself(self):
        self.check(["1??1"], [[0, 1], [0, 1]])
        self.check(["?1?#0?#2"], [[0, 2, 0], [1, 0]])

    def test_no_part_no_counts(self):
        self.check(["??"], [])

    def test_at_a_cell(self):
        board = board_of(["?1?1?"], 0)
        part = only_part(board)
        self.assertEqual(part_counts_at(board, part, (0, 0)), [0, 0, 1, 0])
        self.assertEqual(part_counts_at(board, part, (0, 2)), [0, 1, 0, 0])
        self.assertEqual(part_counts_at(board, part, (0, 4)), [0, 0, 1, 0])

    def test_at_a_cell_that_none_has_or_all_have(self):
        board = board_of(["?1?0#"], 0)
        part = only_part(board)
        self.assertEqual(part_counts_at(board, part, (0, 0)), [0, 1, 0])
        self.assertEqual(part_counts_at(board, part, (0, 2)), [0, 0, 0])

    def test_at_a_cell_of_a_part_without_a_laying(self):
        board = board_of(["?0?1?0?"], 0)
        part = only_part(board)
        for cell in part:
            self.assertEqual(part_counts_at(board, part, cell), [0] * 5)

    def test_fourteen_cells(self):
        board = board_of(FOURTEEN, 8)
        part = only_part(board)
        told = part_counts(board, part)
        self.assertEqual(told, [0] * 7 + [700, 525] + [0] * 6)
        self.assertEqual(len(told), 15)
        self.assertEqual(part_counts_at(board, part, (2, 2)), [0] * 7 + [700, 0] + [0] * 6)

    def test_against_the_words(self):
        for rows, stones in small_boards(400):
            board = board_of(rows, stones)
            for part in parts(board):
                found = part_layings_by_hand(rows, part)
                sizes = [len(laying) for laying in found]
                told = part_counts(board, part)
                self.assertEqual(told, [sizes.count(k) for k in range(len(part) + 1)], rows)
                for cell in part:
                    sizes = [len(laying) for laying in found if cell in laying]
                    told = part_counts_at(board, part, cell)
                    self.assertEqual(told, [sizes.count(k) for k in range(len(part) + 1)], rows)

    def test_lists_of_whole_numbers(self):
        board = board_of(ROWS, 0)
        for part in parts(board):
            for told in (part_counts(board, part), part_counts_at(board, part, part[0])):
                self.assertIs(type(told), list)
                self.assertEqual({type(many) for many in told}, {int})


class TooGreatTest(unittest.TestCase):
    def refused(self, ask, *args):
        with self.assertRaises(StoneError) as caught:
            ask(*args)
        self.assertIs(type(caught.exception), TooGreat)
        self.assertIsInstance(caught.exception, ValueError)

    def test_more_than_fourteen_cells_are_refused(self):
        for rows in (
            FIFTEEN, ["????????", "11111111", "???????#"], ["????????", "00000000", "????????"],
            ["?0?0?0?0", "0?0?0?0?"] * 4, FIFTEEN + ["#####", "3#1#0"], ["????????", "88888888", "???????#"],
        ):
            for stones in (0, 3, 64):
                with self.subTest(rows=rows, stones=stones):
                    board = board_of(rows, stones)
                    part = only_part(board)
                    self.assertGreater(len(part), 14)
                    self.refused(part_layings, board, part)
                    self.refused(part_counts, board, part)
                    for cell in part:
                        self.refused(part_counts_at, board, part, cell)

    def test_another_part_of_the_same_board_is_told(self):
        board = board_of(["?1?##", "#####"] + FIFTEEN, 3)
        small, great = parts(board)
        self.assertEqual(part_layings(board, small), [[(0, 0)], [(0, 2)]])
        self.assertEqual(part_counts(board, small), [0, 2, 0])
        self.assertEqual(part_counts_at(board, small, (0, 2)), [0, 1, 0])
        self.refused(part_layings, board, great)
        self.refused(part_counts, board, great)
        self.refused(part_counts_at, board, great, great[0])


class OwnListsTest(unittest.TestCase):
    def ask(self, board, part):
        return [part_layings(board, part), part_counts(board, part), part_counts_at(board, part, part[-1])]

    def test_nothing_handed_in_is_changed(self):
        board = board_of(ROWS, 2)
        for part in parts(board):
            before = list(part)
            self.ask(board, part)
            self.assertEqual(part, before)
        self.assertEqual(board, (ROWS, 2))

    def test_lists_given_are_the_askers_own(self):
        for rows in (ROWS, ["1?"], ["0?"], ["2?"], ["?1?"], ["???", "?8?", "???"]):
            board = board_of(rows, 2)
            for part in parts(board):
                kept = list(part)
                before = self.ask(board, part)
                told = self.ask(board, part)
                for laying in told[0]:
                    laying.append((9, 9))
                for given in told:
                    given.append(9)
                    given.reverse()
                self.assertEqual(part, kept)
                self.assertEqual(self.ask(board, part), before)
                self.assertEqual(board, (rows, 2))

    def test_no_list_stands_at_two_places(self):
        board = board_of(["???", "?4?", "???"], 4)
        part = only_part(board)
        told = part_layings(board, part)
        self.assertEqual(len({id(laying) for laying in told}), 70)
        told[0].append((9, 9))
        self.assertEqual(told[1:], part_layings(board, part)[1:])

    def test_what_is_done_later_changes_nothing(self):
        board = board_of(FOURTEEN, 2)
        part = only_part(board)
        told = self.ask(board, part)
        expected = self.ask(board_of(FOURTEEN, 2), list(part))
        board[0].clear()
        part.clear()
        self.assertEqual(told, expected)

    def test_a_board_that_was_changed_is_answered_as_it_is_now(self):
        board = board_of(["?1?"], 1)
        part = only_part(board)
        self.assertEqual(part_counts(board, part), [0, 2, 0])
        board[0][0] = "?2?"
        self.assertEqual(part_layings(board, part), [[(0, 0), (0, 2)]])
        self.assertEqual(part_counts(board, part), [0, 0, 1])
        self.assertEqual(part_counts_at(board, part, (0, 0)), [0, 0, 1])


if __name__ == "__main__":
    unittest.main()
