"""Points 1, 2 and 3: the five promises together, from a field to its end, and all functions as the asker meets them."""

import copy
import fractions
import unittest

from byhand import cells_by_hand, containers, layings_by_hand, some_fields, stones_beside
from stonelay.boards import around, board_of, closed, number_at, open_cells, opened
from stonelay.chances import best, chances, plan
from stonelay.counts import count, count_at, near_counts
from stonelay.desk import Desk
from stonelay.errors import StoneError
from stonelay.fields import board_at, field_of, stones_of
from stonelay.fractions import fraction
from stonelay.layings import is_laying, layings, why_none
from stonelay.partcounts import part_counts, part_counts_at, part_layings
from stonelay.parts import bare_wrong, far, numbers_of, parts
from stonelay.runs import run
from stonelay.sure import share, shares, sure, witnesses
from stonelay.texts import read, written
from stonelay.thinking import follows, holds
from stonelay.thoughts import thoughts


class FiveTogetherTest(unittest.TestCase):
    """Each field is opened from a first cell on; where no cell is sure the best one is guessed, to the end."""

    def setUp(self):
        self.met = {"looks": 0, "guesses": 0, "ends": 0, "lost": 0}

    def counts_hold(self, board, found):
        self.assertEqual(count(board), len(found))
        for cell in closed(board):
            lying = len([laying for laying in found if cell in laying])
            self.assertEqual(count_at(board, cell), lying)
            self.assertEqual(share(board, cell), fraction(lying, len(found)))
        self.assertEqual(list(shares(board)), closed(board))

    def what_is_sure_holds(self, board, found):
        clears, laid = sure(board)
        for cell in closed(board):
            having, lacking = witnesses(board, cell)
            self.assertEqual(having is None, cell in clears)
            self.assertEqual(lacking is None, cell in laid)
            self.assertTrue(having is None or (is_laying(board, having) and cell in having and having in found))
            self.assertTrue(lacking is None or (is_laying(board, lacking) and cell not in lacking))

    def thoughts_hold(self, board):
        steps, finding = thoughts(board)
        known = ([], [])
        for step in steps:
            self.assertTrue(holds(board, known, step))
            known = (sorted(known[0] + step[1]), sorted(known[1] + step[2]))
        self.assertEqual(finding, known)
        clears, laid = sure(board)
        self.assertLessEqual(set(finding[0]), set(clears))
        self.assertLessEqual(set(finding[1]), set(laid))
        row = open_cells(board) + ["all"]
        for place, thing in enumerate(row):
            self.assertEqual(follows(board, [thing], finding), ([], []))
            for other in row[place + 1:]:
                self.assertEqual(follows(board, [thing, other], finding), ([], []))

    def plan_holds(self, board, found):
        told = best(board, 3)
        greatest = max(fractions.Fraction(*part) for part in chances(board, 3).values())
        self.assertEqual(greatest, fractions.Fraction(*told[1]))
        through = 0
        for laying in found:
            way = plan(board, 3)
            while way is not None and way[0] not in laying:
                way = way[1][stones_beside(way[0], laying)]
            through += way is None
        self.assertEqual(fraction(through, len(found)), told[1])

    def look(self, board, field):
        found = layings_by_hand(board[0], board[1])
        self.assertIn(stones_of(field), found)
        self.assertEqual(layings(board), found)
        self.counts_hold(board, found)
        self.what_is_sure_holds(board, found)
        self.thoughts_hold(board)
        self.assertEqual(read(written(board)), board)
        self.met["looks"] += 1
        return found

    def go(self, field, first):
        word, row, board = run(field, first)
        self.assertEqual(board, board_at(field, row))
        for place in range(1, len(row)):
            self.look(board_at(field, row[:place]), field)
        found = self.look(board, field)
        while word == "stuck" and len(closed(board)) <= 8:
            self.assertEqual(sure(board)[0], [])
            self.plan_holds(board, found)
            cell = best(board, 3)[0]
            self.met["guesses"] += 1
            if cell in stones_of(field):
                self.met["lost"] += 1
                return
            row = row + [cell]
            board = board_at(field, row)
            while sure(board)[0] != []:
                row = row + sure(board)[0]
                board = board_at(field, row)
            found = self.look(board, field)
            word = "end" if sorted(row) == cells_by_hand(field, ".") else "stuck"
        if word == "end":
            self.assertEqual(sorted(row), cells_by_hand(field, "."))
            self.assertEqual(is_laying(board, closed(board)), closed(board) == stones_of(field))
            self.met["ends"] += 1

    def test_small_fields(self):
        for field in some_fields(70, 3, 4, 41):
            for first in cells_by_hand(field, ".")[::2]:
                self.go(field_of(field), first)
        for kind, many in self.met.items():
            self.assertGreater(many, 20, kind)


ROWS = ["?1?1?", "#####", "1?#??"]


def askings():
    """All functions, each with what is handed in."""
    board = board_of(ROWS, 3)
    field = field_of(["o..", "..#"])
    part = [(0, 0), (0, 2), (0, 4)]
    step = ([(2, 0)], [], [(2, 1)])
    return [
        (fraction, (6, 4)), (board_of, (list(ROWS), 3)), (closed, (board,)), (open_cells, (board,)),
        (around, (board, (0, 1))), (number_at, (board, (0, 1))), (opened, (board, {(2, 3): 0})),
        (is_laying, (board, [(0, 0), (0, 4), (2, 1)])), (why_none, (board, [(0, 0)])), (layings, (board,)),
        (parts, (board,)), (far, (board,)), (numbers_of, (board, part)), (bare_wrong, (board,)),
        (part_layings, (board, part)), (part_counts, (board, part)), (part_counts_at, (board, part, (0, 0))),
        (near_counts, (board,)), (count, (board,)), (count_at, (board, (2, 3))),
        (share, (board, (0, 0))), (shares, (board,)), (sure, (board,)), (witnesses, (board, (0, 0))),
        (follows, (board, [(0, 1), "all"], ([], [(2, 1)]))), (holds, (board, ([], []), step)), (thoughts, (board,)),
        (field_of, (["o..", "..#"],)), (stones_of, (field,)), (board_at, (field, [(0, 2)])),
        (run, (field, (0, 2))), (run, (field, (0, 2), "thoughts")),
        (chances, (board, 2)), (best, (board, 2)), (plan, (board, 3)), (written, (board,)), (read, ("3/?1?/???",)),
    ]


class AskersOwnTest(unittest.TestCase):
    def test_nothing_handed_in_is_changed(self):
        for ask, args in askings():
            kept = copy.deepcopy(args)
            ask(*args)
            self.assertEqual(args, kept, ask.__name__)

    def test_nothing_given_is_handed_in_or_stands_at_two_places(self):
        for ask, args in askings():
            held = containers([ask(*args), ask(*args), args])
            self.assertEqual(len({id(some) for some in held}), len(held), ask.__name__)

    def test_what_is_done_behind_the_call_changes_nothing(self):
        for ask, shared in askings():
            args = copy.deepcopy(shared)
            told = ask(*args)
            kept = copy.deepcopy(told)
            for some in containers(args):
                some.clear()
            self.assertEqual(told, kept, ask.__name__)

    def test_what_is_done_to_the_given_changes_nothing(self):
        for ask, args in askings():
            kept = copy.deepcopy(ask(*args))
            for some in containers(ask(*args)):
                some.clear()
            self.assertEqual(ask(*args), kept, ask.__name__)
        # Nor what any of them tells of the same things later.
        self.assertEqual([ask(*args) for ask, args in askings()], [ask(*args) for ask, args in askings()])

    def test_no_truth_stands_for_a_whole_number(self):
        def numbers_in(value):
            if isinstance(value, dict):
                value = list(value) + list(value.values())
            if isinstance(value, (list, tuple)):
                return [number for part in value for number in numbers_in(part)]
            return [value] if isinstance(value, int) else []

        for ask, args in askings():
            if ask not in (is_laying, holds):
                self.assertNotIn(bool, {type(number) for number in numbers_in(ask(*args))}, ask.__name__)


class DeskFromAFieldToItsEndTest(unittest.TestCase):
    def test_opening_what_is_sure(self):
        ended = 0
        for field in some_fields(60, 4, 5, 43):
            first = cells_by_hand(field, ".")[0]
            try:
                word, row, board = run(field_of(field), first)
            except StoneError:
                continue
            desk = Desk()
            start = board_at(field, [])
            desk.say("board " + written(start))
            for cell in row:
                number = stones_beside(cell, stones_of(field))
                self.assertEqual(desk.say(f"tell {cell[0]} {cell[1]} {number}"), "ok")
            self.assertEqual(desk.say("count"), str(count(board)))
            clears = desk.say("sure").partition(" / ")[0]
            self.assertEqual(clears, "-")
            ended += word == "end"
        self.assertGreater(ended, 10)


if __name__ == "__main__":
    unittest.main()
