"""Points 18, 19 and 20, the refusals of 13 and 18, the second promise of 3, and of point 2 what is told of these."""

import fractions
import unittest

from byhand import (
    closed_by_hand, containers, count_by_hand, far_by_hand, great_boards, layings_by_hand, parts_by_hand, small_boards,
)
from stonelay.boards import board_of
from stonelay.errors import NoLaying, StoneError, TooGreat
from stonelay.layings import is_laying
from stonelay.sure import share, shares, sure, witnesses

FIFTEEN = ["????????", "11111111", "???????#"]
FOURTEEN = ["#??##", "?4?##", "?????", "##?4?", "##???"]


def share_by_hand(found, cell):
    told = fractions.Fraction(len([laying for laying in found if cell in laying]), len(found))
    return (told.numerator, told.denominator)


class SharesTest(unittest.TestCase):
    def check(self, rows, stones, told):
        with self.subTest(rows=rows, stones=stones):
            board = board_of(rows, stones)
            self.assertEqual(shares(board), told)
            for cell, part in told.items():
                self.assertEqual(share(board, cell), part)

    def test_written_out(self):
        self.check(["?1?"], 1, {(0, 0): (1, 2), (0, 2): (1, 2)})
        self.check(["1?#??"], 2, {(0, 1): (1, 1), (0, 3): (1, 2), (0, 4): (1, 2)})
        self.check(["0?#??"], 1, {(0, 1): (0, 1), (0, 3): (1, 2), (0, 4): (1, 2)})
        self.check(["?1?1?"], 1, {(0, 0): (0, 1), (0, 2): (1, 1), (0, 4): (0, 1)})
        self.check(["???", "?#?"], 2, {cell: (2, 5) for cell in [(0, 0), (0, 1), (0, 2), (1, 0), (1, 2)]})
        self.check(["?1?1?", "#####", "??###"], 2, {
            (0, 0): (1, 3), (0, 2): (2, 3), (0, 4): (1, 3), (2, 0): (1, 3), (2, 1): (1, 3),
        })

    def test_none_and_all(self):
        self.check(["???"], 0, {(0, 0): (0, 1), (0, 1): (0, 1), (0, 2): (0, 1)})
        self.check(["???"], 3, {(0, 0): (1, 1), (0, 1): (1, 1), (0, 2): (1, 1)})
        self.check(["0?"], 0, {(0, 1): (0, 1)})
        self.check(["1?"], 1, {(0, 1): (1, 1)})

    def test_no_closed_cell(self):
        self.check(["0"], 0, {})
        self.check(["#"], 0, {})
        self.check(["00", "#0"], 0, {})

    def test_kinds(self):
        told = shares(board_of(["1?#??"], 2))
        self.assertIs(type(told), dict)
        for part in told.values():
            self.assertIs(type(part), tuple)
            self.assertEqual([type(number) for number in part], [int, int])

    def test_small_boards_against_the_layings(self):
        whole = {(0, 1): 0, (1, 1): 0}
        for rows, stones in small_boards(400):
            found = layings_by_hand(rows, stones)
            if found:
                told = {cell: share_by_hand(found, cell) for cell in closed_by_hand(rows)}
                self.check(rows, stones, told)
                for part in told.values():
                    whole[part] = whole.get(part, 0) + 1
        self.assertGreater(min(whole[(0, 1)], whole[(1, 1)], len(whole)), 10)

    def test_great_boards_against_going_cell_by_cell(self):
        answered = 0
        for place, (rows, stones) in enumerate(great_boards(60)):
            every = count_by_hand(rows, stones)
            if every:
                told = shares(board_of(rows, stones))
                self.assertEqual(sorted(told), closed_by_hand(rows))
                for cell in closed_by_hand(rows)[place % 9::9]:
                    part = fractions.Fraction(count_by_hand(rows, stones, cell), every)
                    self.assertEqual(told[cell], (part.numerator, part.denominator), (rows, stones, cell))
                answered += 1
        self.assertGreater(answered, 20)

    def test_they_come_to_the_stones(self):
        for rows, stones in small_boards(200) + great_boards(60):
            if count_by_hand(rows, stones):
                told = shares(board_of(rows, stones))
                self.assertEqual(sum(fractions.Fraction(*part) for part in told.values()), stones, rows)

    def test_sixty_four_closed_cells(self):
        rows = ["?" * 8] * 8
        for stones, told in ((0, (0, 1)), (1, (1, 64)), (24, (3, 8)), (32, (1, 2)), (63, (63, 64)), (64, (1, 1))):
            board = board_of(rows, stones)
            self.assertEqual(shares(board), {cell: told for cell in closed_by_hand(rows)})
            self.assertEqual(share(board, (7, 7)), told)

    def test_several_great_parts(self):
        rows = [row + "###" for row in FOURTEEN] + ["########"] + ["?3?##?3?"] + ["???##???"]
        self.assertEqual([len(part) for part in parts_by_hand(rows)], [14, 5, 5])
        told = shares(board_of(rows, 14))
        # Six lie in the small parts. Eight in the great one are four and four, so none around both of its numbers.
        self.assertEqual(told[(2, 2)], (0, 1))
        self.assertEqual(told[(6, 0)], (3, 5))
        self.assertEqual(shares(board_of(rows, 13))[(2, 2)], (1, 1))


class SureTest(unittest.TestCase):
    def check(self, rows, stones, clears, laid):
        with self.subTest(rows=rows, stones=stones):
            self.assertEqual(sure(board_of(rows, stones)), (clears, laid))

    def test_near_cells(self):
        self.check(["1?"], 1, [], [(0, 1)])
        self.check(["0?"], 0, [(0, 1)], [])
        self.check(["?1?1?"], 1, [(0, 0), (0, 4)], [(0, 2)])
        self.check(["?1?1?"], 2, [(0, 2)], [(0, 0), (0, 4)])
        self.check(["?1?"], 1, [], [])

    def test_far_cells_where_no_stone_is_left(self):
        self.check(["?1??"], 1, [(0, 3)], [])
        self.check(["1?#??"], 1, [(0, 3), (0, 4)], [(0, 1)])
        self.check(["???"], 0, [(0, 0), (0, 1), (0, 2)], [])

    def test_far_cells_where_all_are_full(self):
        self.check(["?1??"], 2, [], [(0, 3)])
        self.check(["1?#??"], 3, [], [(0, 1), (0, 3), (0, 4)])
        self.check(["0?#??"], 2, [(0, 1)], [(0, 3), (0, 4)])
        self.check(["???"], 3, [], [(0, 0), (0, 1), (0, 2)])

    def test_far_cells_of_which_some_are_full(self):
        self.check(["?1?#??"], 2, [], [])
        self.check(["0?#??"], 1, [(0, 1)], [])

    def test_no_closed_cell(self):
        self.check(["0"], 0, [], [])
        self.check(["##"], 0, [], [])

    def test_sixty_four_closed_cells(self):
        rows = ["?" * 8] * 8
        self.check(rows, 0, closed_by_hand(rows), [])
        self.check(rows, 64, [], closed_by_hand(rows))
        self.check(rows, 63, [], [])

    def test_kinds(self):
        told = sure(board_of(["?1??"], 1))
        self.assertIs(type(told), tuple)
        self.assertEqual([type(cells) for cells in told], [list, list])

    def test_small_boards_against_the_layings(self):
        for rows, stones in small_boards(400):
            found = layings_by_hand(rows, stones)
            if found:
                clears = [cell for cell in closed_by_hand(rows) if not any(cell in laying for laying in found)]
                laid = [cell for cell in closed_by_hand(rows) if all(cell in laying for laying in found)]
                self.check(rows, stones, clears, laid)

    def test_great_boards_against_going_cell_by_cell(self):
        many = 0
        for rows, stones in great_boards(40):
            every = count_by_hand(rows, stones)
            if every:
                clears, laid = sure(board_of(rows, stones))
                self.assertEqual((clears, laid), (sorted(clears), sorted(laid)))
                self.assertEqual(set(clears) & set(laid), set())
                for cell in clears[::3]:
                    self.assertEqual(count_by_hand(rows, stones, cell), 0)
                for cell in laid[::3]:
                    self.assertEqual(count_by_hand(rows, stones, cell), every)
                many += len(clears) + len(laid)
        self.assertGreater(many, 50)


class WitnessesTest(unittest.TestCase):
    def check(self, rows, stones, cell, has, has_not):
        """That there are such witnesses, or that it tells of none, as has and has_not say."""
        with self.subTest(rows=rows, stones=stones, cell=cell):
            board = board_of(rows, stones)
            told = witnesses(board, cell)
            self.assertIs(type(told), tuple)
            self.assertEqual(len(told), 2)
            self.assertEqual((told[0] is not None, told[1] is not None), (has, has_not))
            if has:
                self.assertTrue(is_laying(board, told[0]))
                self.assertIn(cell, told[0])
            if has_not:
                self.assertTrue(is_laying(board, told[1]))
                self.assertNotIn(cell, told[1])

    def test_near_cells(self):
        self.check(["?1?"], 1, (0, 0), True, True)
        self.check(["1?"], 1, (0, 1), True, False)
        self.check(["0?"], 0, (0, 1), False, True)
        self.check(["?1?1?", "#####", "??###"], 2, (0, 2), True, True)
        self.check(["?1?1?"], 2, (0, 2), False, True)
        self.check(["?1?1?"], 1, (0, 2), True, False)

    def test_far_cells(self):
        self.check(["?1??"], 1, (0, 3), False, True)
        self.check(["?1??"], 2, (0, 3), True, False)
        self.check(["1?#??"], 2, (0, 3), True, True)
        self.check(["1?#??"], 2, (0, 4), True, True)
        self.check(["???"], 0, (0, 1), False, True)
        self.check(["???"], 1, (0, 1), True, True)
        self.check(["???"], 3, (0, 1), True, False)

    def test_the_only_laying_is_told(self):
        self.assertEqual(witnesses(board_of(["?1?1?"], 2), (0, 0)), ([(0, 0), (0, 4)], None))
        self.assertEqual(witnesses(board_of(["?1?1?"], 2), (0, 2)), (None, [(0, 0), (0, 4)]))
        self.assertEqual(witnesses(board_of(["?1?"], 1), (0, 2)), ([(0, 2)], [(0, 0)]))
        self.assertEqual(witnesses(board_of(["?"], 0), (0, 0)), (None, []))

    def test_small_boards_against_the_layings(self):
        for rows, stones in small_boards(300):
            found = layings_by_hand(rows, stones)
            if found:
                for cell in closed_by_hand(rows):
                    lying = len([laying for laying in found if cell in laying])
                    self.check(rows, stones, cell, lying > 0, lying < len(found))

    def test_great_boards(self):
        checked = {"near": 0, "far": 0, "none": 0}
        for rows, stones in great_boards(60):
            every = count_by_hand(rows, stones)
            if every:
                told = shares(board_of(rows, stones))
                for cell in closed_by_hand(rows)[::3]:
                    self.check(rows, stones, cell, told[cell] != (0, 1), told[cell] != (1, 1))
                    checked["far" if cell in far_by_hand(rows) else "near"] += 1
                    checked["none"] += told[cell][1] == 1
        for kind, many in checked.items():
            self.assertGreater(many, 20, kind)

    def test_sixty_four_closed_cells(self):
        rows = ["?" * 8] * 8
        for stones in (0, 1, 31, 63, 64):
            for cell in ((0, 0), (3, 4), (7, 7)):
                self.check(rows, stones, cell, stones > 0, stones < 64)

    def test_every_cell_of_each_other_one_comes_with_two_layings(self):
        for rows, stones in ((FOURTEEN, 7), (FOURTEEN, 8), ([row + "#??" for row in FOURTEEN], 9)):
            clears, laid = sure(board_of(rows, stones))
            for cell in closed_by_hand(rows):
                self.check(rows, stones, cell, cell not in clears, cell not in laid)


class RefusalsTest(unittest.TestCase):
    def refused(self, kind, rows, stones):
        board = board_of(rows, stones)
        for cell in closed_by_hand(rows):
            self.one_refused(kind, share, board, cell)
            self.one_refused(kind, witnesses, board, cell)
        self.one_refused(kind, shares, board)
        self.one_refused(kind, sure, board)
        self.assertEqual(board, (rows, stones))

    def one_refused(self, kind, ask, *args):
        with self.subTest(ask=ask.__name__, args=args):
            with self.assertRaises(StoneError) as caught:
                ask(*args)
            self.assertIs(type(caught.exception), kind)
            self.assertIsInstance(caught.exception, ValueError)

    def test_no_laying(self):
        for rows, stones in (
            (["2?"], 1), (["?1?"], 0), (["?1?"], 2), (["1???"], 4), (["???"], 4), (["0?1"], 1), (["?1?"], 64),
            (["3#??"], 1), (["?1?#4"], 1), (["1#?"], 0),
        ):
            self.refused(NoLaying, rows, stones)

    def test_no_laying_and_no_closed_cell(self):
        for rows, stones in ((["0"], 1), (["#"], 1), (["1"], 0), (["8"], 8), (["00", "#3"], 0), (["##"], 64)):
            self.refused(NoLaying, rows, stones)

    def test_a_part_of_fifteen_cells(self):
        for stones in (4, 5, 6, 9):
            self.refused(TooGreat, FIFTEEN, stones)
            self.refused(TooGreat, FIFTEEN + ["########", "1?#?1###"], stones + 2)

    def test_a_part_of_fifteen_cells_ahead_of_no_laying(self):
        self.refused(TooGreat, FIFTEEN, 0)
        self.refused(TooGreat, FIFTEEN, 64)
        self.refused(TooGreat, ["????????", "88888888", "???????#"], 8)
        self.refused(TooGreat, FIFTEEN + ["########", "2?######"], 5)

    def test_a_part_of_fifteen_cells_and_a_wrong_bare_cell(self):
        self.refused(TooGreat, FIFTEEN + ["########", "3#0#####"], 5)
        self.refused(TooGreat, ["3#0#####", "########"] + FIFTEEN, 5)

    def test_fourteen_cells_are_answered(self):
        board = board_of(FOURTEEN, 7)
        self.assertEqual(share(board, (2, 2)), (1, 1))
        self.assertEqual(len(shares(board)), 14)
        self.assertEqual(sure(board), ([], [(2, 2)]))
        self.assertEqual(witnesses(board, (2, 2))[1], None)


class OwnListsTest(unittest.TestCase):
    BOARDS = ((["?1?1?", "#####", "1?#??"], 3), (["??"], 1), (["1?"], 1), (["0?"], 0), (["#"], 0), (["?1?"], 1))

    def ask(self, board):
        cells = closed_by_hand(board[0])
        return [shares(board), sure(board)] + [witnesses(board, cell) for cell in cells]

    def test_nothing_handed_in_is_changed(self):
        for rows, stones in self.BOARDS:
            board = board_of(rows, stones)
            self.ask(board)
            self.assertEqual(board, (rows, stones))

    def test_what_is_given_is_the_askers_own(self):
        for rows, stones in self.BOARDS:
            board = board_of(rows, stones)
            before = self.ask(board)
            told = self.ask(board)
            for some in containers(told[1:]):
                some.append((9, 9))
                some.reverse()
            told[0].clear()
            self.assertEqual(self.ask(board), before)
            self.assertEqual(board, (rows, stones))

    def test_no_list_stands_at_two_places(self):
        for rows, stones in self.BOARDS:
            told = self.ask(board_of(rows, stones))
            held = containers(told)
            self.assertEqual(len({id(some) for some in held}), len(held))

    def test_what_is_done_to_the_board_later_changes_nothing(self):
        for rows, stones in self.BOARDS:
            board = board_of(rows, stones)
            told = self.ask(board)
            board[0].clear()
            self.assertEqual(told, self.ask(board_of(rows, stones)))

    def test_a_board_that_was_changed_is_answered_as_it_is_now(self):
        board = board_of(["?1?"], 1)
        self.assertEqual(sure(board), ([], []))
        board[0][0] = "0??"
        self.assertEqual(sure(board), ([(0, 1)], [(0, 2)]))
        self.assertEqual(share(board, (0, 2)), (1, 1))
        self.assertEqual(witnesses(board, (0, 2)), ([(0, 2)], None))


if __name__ == "__main__":
    unittest.main()
