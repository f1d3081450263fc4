"""Points 27 and 28 with the refusals of 13 and 24, the fourth promise of 3, and of point 2 what is told of runs."""

import unittest

from byhand import (
    board_by_hand, cells_by_hand, closed_by_hand, containers, numbers_by_hand, parts_by_hand, run_by_hand, some_fields,
    stones_beside,
)
from stonelay.boards import board_of
from stonelay.errors import NoCell, StoneError, TooGreat
from stonelay.fields import board_at, field_of
from stonelay.runs import run
from stonelay.sure import sure
from stonelay.thoughts import thoughts

WAYS = ("sure", "thoughts")
# Nine clear cells within a ring of stones, opened from the one in the middle.
RING = ["ooooo", "o...o", "o...o", "o...o", "ooooo"]
RING_ROW = [(2, 2), (1, 1), (1, 2), (1, 3), (2, 1), (2, 3), (3, 1), (3, 2), (3, 3)]
RING_BOARD = (["?????", "?535?", "?303?", "?535?", "?????"], 16)
# Opened from (4, 0) there comes a board with thirty-one open cells that are not bare, and no part is great.
OPEN = ["..o....o", "....o...", "........", "..o.....", "..o.o...", ".......o"]
OPEN_ROWS = ["01?2111?", "0112?11?", "0112110?", "02?3110?", "02?3?11?", "0112111?"]


class RunTest(unittest.TestCase):
    def check(self, field, first, word, row, rows, ways=WAYS):
        stones = len(cells_by_hand(field, "o"))
        for way in ways:
            with self.subTest(field=field, first=first, way=way):
                self.assertEqual(run(field_of(field), first, way), (word, row, (rows, stones)))

    def test_ends_at_the_first_cell(self):
        self.check(["."], (0, 0), "end", [(0, 0)], ["0"])
        self.check(["o.o"], (0, 1), "end", [(0, 1)], ["?2?"])
        self.check(["ooo", "o.o", "ooo"], (1, 1), "end", [(1, 1)], ["???", "?8?", "???"])
        self.check([".#o"], (0, 0), "end", [(0, 0)], ["0#?"])

    def test_ends_after_several_looks(self):
        self.check(["....o"], (0, 0), "end", [(0, 0), (0, 1), (0, 2), (0, 3)], ["0001?"])
        self.check(["o...."], (0, 4), "end", [(0, 4), (0, 3), (0, 2), (0, 1)], ["?1000"])
        self.check(["o....o"], (0, 2), "end", [(0, 2), (0, 1), (0, 3), (0, 4)], ["?1001?"])

    def test_stuck(self):
        self.check([".o", "o."], (0, 0), "stuck", [(0, 0)], ["2?", "??"])
        self.check([".o", ".."], (0, 0), "stuck", [(0, 0)], ["1?", "??"])
        self.check(["...o.#.o"], (0, 0), "stuck", [(0, 0), (0, 1), (0, 2)], ["001??#??"])

    def test_ends_where_the_number_of_all_tells_the_rest(self):
        self.check(["..o."], (0, 0), "end", [(0, 0), (0, 1), (0, 3)], ["01?1"])
        self.check([".#.#."], (0, 2), "end", [(0, 2), (0, 0), (0, 4)], ["0#0#0"])

    def test_all_that_one_look_finds_is_opened_sorted_before_the_next(self):
        self.check(["...", "...", "..."], (1, 1), "end", [
            (1, 1), (0, 0), (0, 1), (0, 2), (1, 0), (1, 2), (2, 0), (2, 1), (2, 2),
        ], ["000", "000", "000"])
        self.check(RING, (2, 2), "end", RING_ROW, RING_BOARD[0])
        # From the middle on to both sides in turns: each look finds one on the left and one on the right.
        self.check(["o.....o"], (0, 3), "end", [(0, 3), (0, 2), (0, 4), (0, 1), (0, 5)], ["?10001?"])

    def test_by_what_is_sure_where_the_way_is_left_out(self):
        # Here thoughts find less.
        field = ["...o.#o", "#..#.#.", ".o.#...", ".###.##", ".....o."]
        told = run(field_of(field), (4, 0))
        self.assertEqual(told, run(field_of(field), (4, 0), "sure"))
        self.assertEqual(told, run(field_of(field), (4, 0), way="sure"))
        self.assertEqual(told[0], "end")
        self.assertEqual(sorted(told[1]), cells_by_hand(field, "."))

    def test_by_thoughts(self):
        field = ["...o.#o", "#..#.#.", ".o.#...", ".###.##", ".....o."]
        told = run(field_of(field), (4, 0), "thoughts")
        self.assertEqual(told, run(field_of(field), (4, 0), way="thoughts"))
        row = [
            (4, 0), (3, 0), (4, 1), (4, 2), (4, 3), (3, 4), (4, 4), (2, 4), (2, 5), (1, 4), (1, 6), (2, 6),
        ]
        self.assertEqual(told, ("stuck", row, board_by_hand(field, row)))
        field = ["..o..", ".....", "o....", ".o...", ".o..."]
        self.assertEqual(run(field_of(field), (0, 0), "thoughts")[1], [(0, 0), (0, 1), (1, 0), (1, 1)])
        self.assertEqual(run(field_of(field), (0, 0), "sure")[1], [(0, 0), (0, 1), (1, 0), (1, 1), (2, 2)])

    def test_kinds(self):
        for way in WAYS:
            told = run(field_of(["....o"]), (0, 0), way)
            self.assertIs(type(told), tuple)
            self.assertEqual([type(part) for part in told], [str, list, tuple])
            self.assertEqual(told[2], board_of(["0001?"], 1))

    def test_small_fields_against_going_through_all(self):
        words = {}
        for field in some_fields(80, 3, 4, 31):
            if len(cells_by_hand(field, ".")) + len(cells_by_hand(field, "o")) > 9:
                continue
            for first in cells_by_hand(field, "."):
                for way in WAYS:
                    word, row, board = run_by_hand(field, first, way)
                    self.check(field, first, word, row, board[0], (way,))
                    words[(way, word)] = words.get((way, word), 0) + 1
        for way in WAYS:
            self.assertGreater(words[(way, "end")], 20)
            self.assertGreater(words[(way, "stuck")], 20)


class FourthPromiseTest(unittest.TestCase):
    def looks(self, field, told, way):
        """Go along a run, look by look, and tell how many looks there were."""
        word, row, board = told
        clear = cells_by_hand(field, ".")
        place, many = 1, 0
        while len(row[:place]) < len(clear):
            seen = board_of(*board_by_hand(field, row[:place]))
            found = sure(seen)[0] if way == "sure" else thoughts(seen)[1][0]
            self.assertLessEqual(set(found), set(clear))
            if not found:
                break
            self.assertEqual(row[place:place + len(found)], found)
            place += len(found)
            many += 1
        self.assertEqual(row[place:], [])
        self.assertEqual(word, "end" if sorted(row) == clear else "stuck")
        self.assertEqual(len(set(row)), len(row))
        self.assertEqual(board, board_by_hand(field, row))
        self.assertEqual(board, board_at(field, row))
        return many

    def test_great_fields(self):
        seen = {"end": 0, "stuck": 0, "looks": 0}
        for field in some_fields(150, 8, 8, 32):
            for first in cells_by_hand(field, ".")[::9]:
                for way in WAYS:
                    try:
                        told = run(field_of(field), first, way)
                    except TooGreat:
                        continue
                    self.assertEqual(told[1][0], first)
                    seen["looks"] += self.looks(field, told, way)
                    seen[told[0]] += 1
        for kind, many in seen.items():
            self.assertGreater(many, 30, kind)

    def test_what_is_stuck_has_no_sure_clear_cell_left(self):
        for field in some_fields(100, 4, 5, 33):
            for first in cells_by_hand(field, ".")[::3]:
                told = run(field_of(field), first)
                if told[0] == "stuck":
                    self.assertEqual(sure(told[2])[0], [])
                    self.assertLess(len(told[1]), len(cells_by_hand(field, ".")))


class RefusalsTest(unittest.TestCase):
    def refused(self, kind, field, first, way):
        with self.subTest(field=field, first=first, way=way):
            with self.assertRaises(StoneError) as caught:
                run(field_of(field), first, way)
            self.assertIs(type(caught.exception), kind)
            self.assertIsInstance(caught.exception, ValueError)

    def test_a_first_cell_with_a_stone(self):
        for field in (["o"], [".o"], RING, ["o#."], ["o" * 8] * 8, ["...", ".o.", "..."]):
            for first in cells_by_hand(field, "o"):
                for way in WAYS:
                    self.refused(NoCell, field, first, way)
        with self.assertRaises(NoCell):
            run(field_of(["o."]), (0, 0))

    def test_a_great_part_on_the_way(self):
        # A clear cell apart, so that the board with the ring is looked at.
        field = [row + "##" for row in RING[:4]] + [RING[4] + "#."]
        self.assertEqual([len(part) for part in parts_by_hand(board_by_hand(field, RING_ROW)[0])], [16])
        for way in WAYS:
            self.refused(TooGreat, field, (2, 2), way)
            self.refused(TooGreat, ["#" + row[1:] for row in field[:1]] + field[1:], (2, 2), way)

    def test_fourteen_cells_are_looked_at(self):
        field = ["##ooo##", "o...o##", "o...o##", "o...o##", "ooooo#."]
        rows, stones = board_by_hand(field, RING_ROW)
        self.assertEqual([len(part) for part in parts_by_hand(rows)], [14])
        for way in WAYS:
            told = run(field_of(field), (2, 2), way)
            self.assertEqual(told, ("end", RING_ROW + [(4, 6)], board_by_hand(field, RING_ROW + [(4, 6)])))

    def test_not_where_all_clear_cells_are_open(self):
        for way in WAYS:
            self.assertEqual(run(field_of(RING), (2, 2), way), ("end", RING_ROW, RING_BOARD))
        with self.assertRaises(TooGreat):
            sure(board_of(*RING_BOARD))

    def test_more_than_thirty_open_cells_that_are_not_bare(self):
        hidden = closed_by_hand(OPEN_ROWS)
        self.assertEqual(len([cell for cell in numbers_by_hand(OPEN_ROWS) if stones_beside(cell, hidden)]), 31)
        self.assertLessEqual(max(len(part) for part in parts_by_hand(OPEN_ROWS)), 14)
        self.refused(TooGreat, OPEN, (4, 0), "thoughts")
        word, row, board = run(field_of(OPEN), (4, 0))
        self.assertEqual((word, sorted(row)), ("end", cells_by_hand(OPEN, ".")))
        # The four cells of the last look are those that are closed and clear on that board.
        self.assertEqual(row[-4:], [(1, 7), (2, 7), (3, 7), (4, 7)])
        self.assertEqual(board_by_hand(OPEN, row[:-4]), (OPEN_ROWS, 7))


class OwnListsTest(unittest.TestCase):
    FIELD = ["...o.", ".....", "o...."]

    def test_nothing_handed_in_is_changed(self):
        field = field_of(self.FIELD)
        for way in WAYS:
            run(field, (0, 0), way)
        self.assertEqual(field, self.FIELD)

    def test_what_is_given_is_the_askers_own(self):
        field = field_of(self.FIELD)
        for way in WAYS:
            before = run(field, (0, 0), way)
            told = run(field, (0, 0), way)
            held = containers([told, before, field])
            self.assertEqual(len({id(some) for some in held}), len(held))
            told[1].clear()
            told[2][0].clear()
            self.assertEqual(run(field, (0, 0), way), before)
            self.assertEqual(field, self.FIELD)

    def test_what_is_done_to_the_field_later_changes_nothing(self):
        for way in WAYS:
            field = field_of(self.FIELD)
            told = run(field, (0, 0), way)
            field.clear()
            self.assertEqual(told, run(field_of(self.FIELD), (0, 0), way))

    def test_a_field_that_was_changed_is_answered_as_it_is_now(self):
        field = field_of(["....o"])
        self.assertEqual(run(field, (0, 0))[1], [(0, 0), (0, 1), (0, 2), (0, 3)])
        field[0] = "..o.."
        self.assertEqual(run(field, (0, 0))[1], [(0, 0), (0, 1), (0, 3), (0, 4)])


if __name__ == "__main__":
    unittest.main()
