"""Point 26, and of point 2 what is told of fields."""

import random
import unittest

from byhand import board_by_hand, cells_by_hand, some_fields
from stonelay.boards import board_of
from stonelay.errors import NoBoard, StoneError
from stonelay.fields import board_at, field_of, stones_of
from stonelay.layings import is_laying

ROWS = ["o.#.", "..o.", "#..."]


class RefusalsTest(unittest.TestCase):
    def test_rows_that_are_none(self):
        for rows in (
            [], ["."] * 9, [""], ["", ""], ["..", ""], ["." * 9], ["." * 9] * 2, [".."] * 9, ["..", "."], [".", ".."],
            ["..", "..", "..."], ["..", "." * 9], ["?"], [".?"], ["0"], [".0"], ["o8"], ["..", ".1"], ["O"], ["o*"],
            [". "], [" "], [".\n"], ["\n"], ["./."], ["-"], ["~"], ["9"], [",."],
        ) + tuple(["." + chr(sign)] for sign in range(ord(" "), ord("~") + 1) if chr(sign) not in ".o#"):
            with self.subTest(rows=rows):
                with self.assertRaises(StoneError) as caught:
                    field_of(rows)
                self.assertIs(type(caught.exception), NoBoard)
                self.assertIsInstance(caught.exception, ValueError)


class FieldTest(unittest.TestCase):
    def test_is_a_list_of_texts(self):
        field = field_of(ROWS)
        self.assertIs(type(field), list)
        self.assertEqual(field, ["o.#.", "..o.", "#..."])

    def test_all_signs_and_lengths(self):
        for sign in ".o#":
            self.assertEqual(field_of([sign]), [sign])
            for height in range(1, 9):
                for width in range(1, 9):
                    rows = [sign * width] * height
                    self.assertEqual(field_of(rows), rows)

    def test_stones(self):
        self.assertEqual(stones_of(field_of(ROWS)), [(0, 0), (1, 2)])
        self.assertEqual(stones_of(field_of(["...", "#.."])), [])
        self.assertEqual(stones_of(field_of(["##"])), [])
        self.assertEqual(stones_of(field_of(["..o", "o..", ".o."])), [(0, 2), (1, 0), (2, 1)])
        cells = [(row, column) for row in range(8) for column in range(8)]
        self.assertEqual(stones_of(field_of(["o" * 8] * 8)), cells)

    def test_stones_against_the_words(self):
        for field in some_fields(100, 8, 8, 21):
            self.assertEqual(stones_of(field_of(field)), cells_by_hand(field, "o"))


class BoardAtTest(unittest.TestCase):
    def check(self, field, cells, rows, stones):
        with self.subTest(field=field, cells=cells):
            told = board_at(field_of(field), cells)
            self.assertEqual(told, (rows, stones))
            self.assertIs(type(told), tuple)
            self.assertIs(type(told[0]), list)
            self.assertEqual(told, board_of(rows, stones))

    def test_no_cell_opened(self):
        self.check(ROWS, [], ["??#?", "????", "#???"], 2)
        self.check(["o" * 8] * 8, [], ["?" * 8] * 8, 64)
        self.check(["."], [], ["?"], 0)
        self.check(["##", "##"], [], ["##", "##"], 0)

    def test_some_cells_opened(self):
        self.check(ROWS, [(0, 1)], ["?2#?", "????", "#???"], 2)
        self.check(ROWS, [(0, 1), (1, 0), (2, 3)], ["?2#?", "1???", "#??1"], 2)

    def test_in_any_order(self):
        for cells in ([(2, 3), (0, 1), (1, 0)], [(1, 0), (2, 3), (0, 1)], [(2, 3), (1, 0), (0, 1)]):
            self.check(ROWS, cells, ["?2#?", "1???", "#??1"], 2)

    def test_all_clear_cells_opened(self):
        self.check(ROWS, cells_by_hand(ROWS, "."), ["?2#1", "12?1", "#111"], 2)
        self.check(["...", "..."], cells_by_hand(["...", "..."], "."), ["000", "000"], 0)
        self.check(["ooo", "o.o", "ooo"], [(1, 1)], ["???", "?8?", "???"], 8)

    def test_a_place_without_a_cell_between(self):
        self.check(["o#."], [(0, 2)], ["?#0"], 1)
        self.check(["#o#", "o.o", "#o#"], [(1, 1)], ["#?#", "?4?", "#?#"], 4)

    def test_the_numbers_are_those_of_all_stones_around(self):
        stones = "oooooooo"
        for many in range(9):
            ring = stones[:many] + "." * (8 - many)
            field = [ring[:3], ring[3] + "." + ring[4], ring[5:]]
            rows = ["???", "?" + str(many) + "?", "???"]
            self.check(field, [(1, 1)], rows, many)

    def test_against_the_words(self):
        dice = random.Random(2)
        for field in some_fields(200, 8, 8, 22):
            clear = cells_by_hand(field, ".")
            for cells in ([], clear, dice.sample(clear, dice.randint(0, len(clear)))):
                rows, stones = board_by_hand(field, cells)
                self.check(field, cells, rows, stones)
                self.assertEqual(board_at(field, cells)[1], len(stones_of(field)))
                self.assertTrue(is_laying(board_at(field, cells), stones_of(field)))


class OwnListsTest(unittest.TestCase):
    def test_nothing_handed_in_is_changed(self):
        rows = list(ROWS)
        field = field_of(rows)
        cells = [(2, 3), (0, 1)]
        stones_of(field)
        board_at(field, cells)
        self.assertEqual((rows, field, cells), (ROWS, ROWS, [(2, 3), (0, 1)]))

    def test_a_field_is_a_new_list(self):
        rows = list(ROWS)
        field = field_of(rows)
        other = field_of(rows)
        rows[0] = "####"
        rows.append("....")
        self.assertEqual(field, ROWS)
        field.clear()
        self.assertEqual(other, ROWS)
        self.assertEqual(field_of(other), ROWS)
        field_of(other).clear()
        self.assertEqual(other, ROWS)

    def test_what_is_given_is_the_askers_own(self):
        field = field_of(ROWS)
        stones_of(field).clear()
        board_at(field, [])[0].clear()
        board_at(field, [(0, 1)])[0].reverse()
        self.assertEqual(field, ROWS)
        self.assertEqual(stones_of(field), [(0, 0), (1, 2)])
        self.assertEqual(board_at(field, []), (["??#?", "????", "#???"], 2))

    def test_what_is_done_later_changes_nothing(self):
        field = field_of(ROWS)
        cells = [(0, 1)]
        stones = stones_of(field)
        board = board_at(field, cells)
        field.clear()
        cells.append((1, 0))
        self.assertEqual(stones, [(0, 0), (1, 2)])
        self.assertEqual(board, (["?2#?", "????", "#???"], 2))

    def test_a_field_that_was_changed_is_answered_as_it_is_now(self):
        field = field_of(ROWS)
        self.assertEqual(board_at(field, [(0, 1)])[0][0], "?2#?")
        field[0] = "..#o"
        self.assertEqual(stones_of(field), [(0, 3), (1, 2)])
        self.assertEqual(board_at(field, [(0, 1)]), (["?1#?", "????", "#???"], 2))


if __name__ == "__main__":
    unittest.main()
