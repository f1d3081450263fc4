"""Points 21, 22, 23 and 25, and of point 2 what is told of them."""

import random
import unittest

from byhand import (
    choices_of, closed_by_hand, containers, follows_by_hand, numbers_by_hand, small_boards, some_rows, stones_beside,
    thing_lists,
)
from stonelay.boards import board_of
from stonelay.errors import NoLaying, StoneError
from stonelay.thinking import follows, holds

NONE = ([], [])
# Two open cells that have two closed cells in common, a far one, and a bare open cell that is wrong.
ROWS = ["?1?2?", "?##??", "#####", "3##?#"]


def boards_to_ask(many):
    """Small boards whose choices of closed cells can be gone through."""
    return [(rows, stones) for rows, stones in small_boards(600) if len(closed_by_hand(rows)) <= 7][:many]


def some_finding(dice, cells):
    """Some of the cells as clear and some others as stones."""
    clears = [cell for cell in cells if dice.random() < 0.2]
    return (clears, [cell for cell in cells if cell not in clears and dice.random() < 0.2])


class FollowsTest(unittest.TestCase):
    def check(self, rows, stones, things, finding, clears, laid):
        with self.subTest(rows=rows, stones=stones, things=things, finding=finding):
            told = follows(board_of(rows, stones), things, finding)
            self.assertEqual(told, (clears, laid))
            self.assertIs(type(told), tuple)
            if len(things) == 2:
                self.assertEqual(follows(board_of(rows, stones), things[::-1], finding), (clears, laid))

    def test_one_open_cell(self):
        self.check(["?0?"], 1, [(0, 1)], NONE, [(0, 0), (0, 2)], [])
        self.check(["?2?"], 1, [(0, 1)], NONE, [], [(0, 0), (0, 2)])
        self.check(["?1?"], 1, [(0, 1)], NONE, [], [])
        self.check(["???", "?8?", "???"], 0, [(1, 1)], NONE, [], [
            (0, 0), (0, 1), (0, 2), (1, 0), (1, 2), (2, 0), (2, 1), (2, 2),
        ])

    def test_one_open_cell_tells_nothing_of_cells_elsewhere(self):
        self.check(["?0??"], 0, [(0, 1)], NONE, [(0, 0), (0, 2)], [])
        self.check(["1?#2?"], 3, [(0, 0)], NONE, [], [(0, 1)])

    def test_the_number_of_all_alone(self):
        self.check(["?1??"], 0, ["all"], NONE, [(0, 0), (0, 2), (0, 3)], [])
        self.check(["?1??"], 3, ["all"], NONE, [], [(0, 0), (0, 2), (0, 3)])
        self.check(["?1??"], 1, ["all"], NONE, [], [])
        self.check(["?1??"], 2, ["all"], NONE, [], [])
        self.check(["0#"], 0, ["all"], NONE, [], [])

    def test_two_open_cells_with_closed_cells_in_common(self):
        self.check(["?1?2?"], 1, [(0, 1), (0, 3)], NONE, [(0, 0)], [(0, 2), (0, 4)])
        self.check(["?1?1?"], 1, [(0, 1), (0, 3)], NONE, [], [])
        # All that the first has around it the second has too.
        self.check(["1??", "?1?"], 1, [(0, 0), (1, 1)], NONE, [(0, 2), (1, 2)], [])
        self.check(["1??", "?2?"], 1, [(0, 0), (1, 1)], NONE, [], [])
        self.check(["1??", "?3?"], 1, [(0, 0), (1, 1)], NONE, [], [(0, 2), (1, 2)])
        self.check(ROWS, 2, [(0, 1), (0, 3)], NONE, [], [])
        self.check(ROWS, 2, [(0, 1), (0, 3)], ([(0, 0), (1, 0)], []), [], [(0, 2)])

    def test_cells_in_common_that_are_settled(self):
        self.check(["0?1?"], 1, [(0, 0), (0, 2)], NONE, [(0, 1)], [(0, 3)])
        self.check(["1?1?"], 1, [(0, 0), (0, 2)], NONE, [(0, 3)], [(0, 1)])

    def test_two_open_cells_with_none_in_common(self):
        self.check(["?1?#0?"], 1, [(0, 1), (0, 4)], NONE, [(0, 5)], [])
        self.check(["1?#0?"], 1, [(0, 0), (0, 3)], NONE, [(0, 4)], [(0, 1)])
        self.check(["?1?#?1?"], 1, [(0, 1), (0, 5)], NONE, [], [])

    def test_an_open_cell_with_the_number_of_all(self):
        self.check(["?1??"], 1, [(0, 1), "all"], NONE, [(0, 3)], [])
        self.check(["?1??"], 2, [(0, 1), "all"], NONE, [], [(0, 3)])
        self.check(["?1???"], 2, [(0, 1), "all"], NONE, [], [])
        self.check(["?2??"], 2, [(0, 1), "all"], NONE, [(0, 3)], [(0, 0), (0, 2)])
        self.check(["0?#??"], 2, [(0, 0), "all"], NONE, [(0, 1)], [(0, 3), (0, 4)])

    def test_cells_that_are_found_are_not_told_again(self):
        self.check(["?0?"], 1, [(0, 1)], ([(0, 0)], []), [(0, 2)], [])
        self.check(["?0?"], 1, [(0, 1)], ([(0, 0), (0, 2)], []), [], [])
        self.check(["?2?"], 1, [(0, 1)], ([], [(0, 2)]), [], [(0, 0)])
        self.check(["?1?"], 1, [(0, 1)], ([(0, 0)], []), [], [(0, 2)])
        self.check(["?1?"], 1, [(0, 1)], ([], [(0, 0)]), [(0, 2)], [])
        self.check(["?1??"], 2, ["all"], ([], [(0, 0), (0, 3)]), [(0, 2)], [])
        self.check(["?1??"], 2, ["all"], ([(0, 2)], []), [], [(0, 0), (0, 3)])
        self.check(["?1?2?"], 1, [(0, 1), (0, 3)], ([(0, 0)], [(0, 4)]), [], [(0, 2)])

    def test_what_is_found_elsewhere_tells_nothing(self):
        self.check(["?1???"], 1, [(0, 1)], ([(0, 3)], [(0, 4)]), [], [])

    def test_bare_open_cells(self):
        self.check(["0#?"], 1, [(0, 0)], NONE, [], [])
        self.check(["0#?"], 1, [(0, 0), "all"], NONE, [], [(0, 2)])
        self.check(["0#?1"], 1, [(0, 0), (0, 3)], NONE, [], [(0, 2)])
        self.check(["0#?", "##0"], 1, [(0, 0)], ([(0, 2)], []), [], [])

    def test_things_that_are_not_named_tell_nothing(self):
        self.check(ROWS, 4, ["all"], NONE, [], [])
        self.check(ROWS, 7, ["all"], NONE, [], [(0, 0), (0, 2), (0, 4), (1, 0), (1, 3), (1, 4), (3, 3)])
        self.check(["0?1"], 1, [(0, 0)], NONE, [(0, 1)], [])
        self.check(["0?1"], 1, [(0, 2)], NONE, [], [(0, 1)])

    def test_both_lists_are_sorted(self):
        self.check(["##?", "?1#", "1##", "?##"], 1, [(1, 1), (2, 0)], ([], [(1, 0)]), [(0, 2), (3, 0)], [])
        self.check(["?#?", "#3#", "?1#", "?##"], 9, [(1, 1), (2, 1)], ([(3, 0)], []), [], [
            (0, 0), (0, 2), (2, 0),
        ])
        told = follows(board_of(["#?#", "?4?", "3??", "??#"], 1), [(1, 1), (2, 0)], ([], [(3, 1)]))
        self.assertEqual(told, (sorted(told[0]), sorted(told[1])))

    def test_against_going_through_all_choices(self):
        dice = random.Random(3)
        seen = {"refused": 0, "clears": 0, "stones": 0, "none": 0}
        for rows, stones in boards_to_ask(120):
            for things in thing_lists(rows):
                finding = dice.choice((NONE, some_finding(dice, closed_by_hand(rows))))
                told = follows_by_hand(rows, stones, things, finding)
                if told is None:
                    with self.assertRaises(NoLaying):
                        follows(board_of(rows, stones), things, finding)
                    seen["refused"] += 1
                else:
                    self.check(rows, stones, things, finding, told[0], told[1])
                    seen["clears"] += told[0] != []
                    seen["stones"] += told[1] != []
                    seen["none"] += told == NONE
        for kind, many in seen.items():
            self.assertGreater(many, 100, kind)


class GreatBoardsTest(unittest.TestCase):
    def test_one_open_cell_among_sixty_three_closed_ones(self):
        rows = ["?" * 8] * 3 + ["???8????"] + ["?" * 8] * 4
        near = [cell for cell in closed_by_hand(rows) if stones_beside((3, 3), [cell])]
        others = [cell for cell in closed_by_hand(rows) if cell not in near]
        self.assertEqual(follows(board_of(rows, 30), [(3, 3)], NONE), ([], near))
        self.assertEqual(follows(board_of(rows, 8), [(3, 3), "all"], NONE), (others, near))
        self.assertEqual(follows(board_of(rows, 63), ["all", (3, 3)], NONE), ([], sorted(near + others)))
        self.assertEqual(follows(board_of(rows, 9), [(3, 3), "all"], NONE), ([], near))
        self.assertEqual(follows(board_of(rows, 9), [(3, 3), "all"], (others[1:], near)), ([], others[:1]))
        with self.assertRaises(NoLaying):
            follows(board_of(rows, 7), [(3, 3), "all"], NONE)

    def test_sixty_four_closed_cells(self):
        rows = ["?" * 8] * 8
        cells = closed_by_hand(rows)
        self.assertEqual(follows(board_of(rows, 64), ["all"], NONE), ([], cells))
        self.assertEqual(follows(board_of(rows, 0), ["all"], NONE), (cells, []))
        self.assertEqual(follows(board_of(rows, 32), ["all"], NONE), ([], []))
        self.assertEqual(follows(board_of(rows, 32), ["all"], ([], cells[:32])), (cells[32:], []))
        self.assertEqual(follows(board_of(rows, 32), ["all"], (cells[:32], [])), ([], cells[32:]))
        self.assertTrue(holds(board_of(rows, 64), NONE, (["all"], [], cells)))
        self.assertFalse(holds(board_of(rows, 63), NONE, (["all"], [], cells)))

    def test_great_parts_against_the_cells_around_alone(self):
        dice = random.Random(5)
        asked = 0
        while asked < 40:
            rows, stones = some_rows(dice, 8, 8, "o...", 0.4, 0.1)
            open_cells = list(numbers_by_hand(rows))
            things = dice.sample(open_cells, 2)
            near = [cell for cell in closed_by_hand(rows) if stones_beside(cell, things)]
            if len(near) > 8:
                continue
            asked += 1
            fitting = [
                choice for choice in choices_of(near)
                if all(stones_beside(thing, choice) == numbers_by_hand(rows)[thing] for thing in things)
            ]
            board = board_of(rows, stones)
            if fitting:
                clears = [cell for cell in near if not any(cell in choice for choice in fitting)]
                laid = [cell for cell in near if all(cell in choice for choice in fitting)]
                self.assertEqual(follows(board, things, NONE), (clears, laid), (rows, things))
                if clears or laid:
                    self.assertTrue(holds(board, NONE, (things, clears, laid)))
            else:
                with self.assertRaises(NoLaying):
                    follows(board, things, NONE)


class NoLayingTest(unittest.TestCase):
    def refused(self, rows, stones, things, finding):
        with self.subTest(rows=rows, stones=stones, things=things, finding=finding):
            self.assertIsNone(follows_by_hand(rows, stones, things, finding))
            for order in (things, things[::-1]):
                with self.assertRaises(StoneError) as caught:
                    follows(board_of(rows, stones), order, finding)
                self.assertIs(type(caught.exception), NoLaying)
                self.assertIsInstance(caught.exception, ValueError)

    def test_one_thing_that_nothing_fits(self):
        self.refused(["?3?"], 3, [(0, 1)], NONE)
        self.refused(["?1?"], 3, ["all"], NONE)
        self.refused(["?1?"], 64, ["all"], NONE)
        self.refused(["0"], 1, ["all"], NONE)

    def test_two_things_that_nothing_fits(self):
        self.refused(["0?1"], 1, [(0, 0), (0, 2)], NONE)
        self.refused(["?2?1?2?"], 1, [(0, 1), (0, 3)], ([], [(0, 4)]))
        self.refused(["?1?"], 2, [(0, 1), "all"], NONE)
        self.refused(["?2??"], 1, [(0, 1), "all"], NONE)
        self.refused(["?0??"], 2, [(0, 1), "all"], NONE)

    def test_the_finding_alone_makes_it_so(self):
        self.refused(["?1?"], 1, [(0, 1)], ([(0, 0), (0, 2)], []))
        self.refused(["?1?"], 1, [(0, 1)], ([], [(0, 0), (0, 2)]))
        self.refused(["?2?"], 1, [(0, 1)], ([(0, 0)], []))
        self.refused(["?0?"], 1, [(0, 1)], ([], [(0, 0)]))
        self.refused(["?1?"], 1, ["all"], ([], [(0, 0), (0, 2)]))
        self.refused(["?1?"], 1, ["all"], ([(0, 0), (0, 2)], []))
        self.refused(["?1??"], 1, [(0, 1), "all"], ([], [(0, 3)]))

    def test_bare_open_cells_that_are_wrong(self):
        self.refused(["3#?"], 1, [(0, 0)], NONE)
        self.refused(["1#?"], 1, [(0, 0), "all"], NONE)
        self.refused(["1#?1"], 1, [(0, 0), (0, 3)], NONE)
        self.refused(["1"], 0, [(0, 0)], NONE)

    def test_only_what_is_named_can_be_refused(self):
        self.assertEqual(follows(board_of(["3#?1"], 5), [(0, 3)], NONE), ([], [(0, 2)]))
        self.assertEqual(follows(board_of(["0?1"], 0), ["all"], NONE), ([(0, 1)], []))


class HoldsTest(unittest.TestCase):
    def check(self, told, rows, stones, finding, step):
        with self.subTest(rows=rows, stones=stones, finding=finding, step=step):
            self.assertIs(holds(board_of(rows, stones), finding, step), told)

    def test_all_that_follows(self):
        self.check(True, ["?0?"], 1, NONE, ([(0, 1)], [(0, 0), (0, 2)], []))
        self.check(True, ["?2?"], 1, NONE, ([(0, 1)], [], [(0, 0), (0, 2)]))
        self.check(True, ["?1?2?"], 1, NONE, ([(0, 1), (0, 3)], [(0, 0)], [(0, 2), (0, 4)]))
        self.check(True, ["?1?2?"], 1, NONE, ([(0, 3), (0, 1)], [(0, 0)], [(0, 2), (0, 4)]))
        self.check(True, ["?1??"], 1, NONE, ([(0, 1), "all"], [(0, 3)], []))
        self.check(True, ["?1??"], 1, NONE, (["all", (0, 1)], [(0, 3)], []))
        self.check(True, ["?1?"], 1, ([(0, 0)], []), ([(0, 1)], [], [(0, 2)]))

    def test_some_of_what_follows(self):
        self.check(True, ["?0?"], 1, NONE, ([(0, 1)], [(0, 2)], []))
        self.check(True, ["?1?2?"], 1, NONE, ([(0, 1), (0, 3)], [(0, 0)], []))
        self.check(True, ["?1?2?"], 1, NONE, ([(0, 1), (0, 3)], [], [(0, 4)]))
        self.check(True, ["?1?2?"], 1, NONE, ([(0, 1), (0, 3)], [(0, 0)], [(0, 2)]))

    def test_a_cell_that_does_not_follow(self):
        self.check(False, ["?1?"], 1, NONE, ([(0, 1)], [(0, 0)], []))
        self.check(False, ["?1?"], 1, NONE, ([(0, 1)], [], [(0, 0)]))
        self.check(False, ["?0??"], 1, NONE, ([(0, 1)], [(0, 0), (0, 3)], []))
        # It follows as the other.
        self.check(False, ["?0?"], 1, NONE, ([(0, 1)], [], [(0, 0)]))
        self.check(False, ["?2?"], 1, NONE, ([(0, 1)], [(0, 0)], []))
        # It is sure, but not from this alone.
        self.check(False, ["?1?2?"], 2, NONE, ([(0, 1)], [(0, 0)], []))
        self.check(False, ["?1??"], 1, NONE, ([(0, 1)], [(0, 3)], []))
        self.check(False, ["?1??"], 1, NONE, (["all"], [(0, 3)], []))

    def test_a_cell_that_is_found_before(self):
        self.check(False, ["?0?"], 1, ([(0, 0)], []), ([(0, 1)], [(0, 0)], []))
        self.check(False, ["?0?"], 1, ([(0, 0)], []), ([(0, 1)], [(0, 0), (0, 2)], []))
        self.check(False, ["?2?"], 1, ([], [(0, 0)]), ([(0, 1)], [], [(0, 0), (0, 2)]))
        self.check(False, ["?1?"], 1, ([], [(0, 0)]), ([(0, 1)], [(0, 2)], [(0, 0)]))
        self.check(True, ["?0?"], 1, ([(0, 0)], []), ([(0, 1)], [(0, 2)], []))

    def test_lists_that_are_not_sorted_or_have_a_cell_twice(self):
        self.check(False, ["?0?"], 1, NONE, ([(0, 1)], [(0, 2), (0, 0)], []))
        self.check(False, ["?2?"], 1, NONE, ([(0, 1)], [], [(0, 2), (0, 0)]))
        self.check(False, ["?0?"], 1, NONE, ([(0, 1)], [(0, 0), (0, 0)], []))
        self.check(False, ["?2?"], 1, NONE, ([(0, 1)], [], [(0, 0), (0, 2), (0, 2)]))

    def test_a_cell_in_both_lists(self):
        self.check(False, ["?0?"], 1, NONE, ([(0, 1)], [(0, 0)], [(0, 0)]))
        self.check(False, ["?2?"], 1, NONE, ([(0, 1)], [(0, 0)], [(0, 0)]))
        self.check(False, ["?1?"], 1, NONE, ([(0, 1)], [(0, 0)], [(0, 0)]))

    def test_what_is_no_closed_cell(self):
        for cell in (
            (0, 1), (0, 4), (0, 5), (-1, 0), (0, -5), (5, 5), (0,), (0, 0, 0), (), "all", "", None, 0, [0, 0],
            (False, 0), (0, False), (0.0, 0),
        ):
            self.check(False, ["?0?#0"], 1, NONE, ([(0, 1)], [cell], []))
            self.check(False, ["?2?#0"], 1, NONE, ([(0, 1)], [], [cell]))
            self.check(False, ["?0?#0"], 1, NONE, ([(0, 1)], [(0, 0), cell], []))
            self.check(False, ["?0?#0"], 1, NONE, ([(0, 1)], [(0, 0)], [cell]))

    def test_nothing_told(self):
        self.check(False, ["?0?"], 1, NONE, ([(0, 1)], [], []))
        self.check(False, ["?1?"], 1, NONE, ([(0, 1)], [], []))
        self.check(False, ["?0?"], 1, ([(0, 0), (0, 2)], []), ([(0, 1)], [], []))

    def test_things_that_are_none(self):
        rows = ["?0?0?1?"]
        for things in (
            [], [(0, 1), (0, 3), (0, 5)], [(0, 1), (0, 3), "all"], [(0, 1), (0, 1)], ["all", "all"],
            [(0, 1), (0, 1), (0, 3)], [(0, 1), "All"], [(0, 1), ""], [(0, 1), "al"], ["ALL", (0, 1)], ["0,1"],
            [(0, 0)], [(0, 1), (0, 0)], [(0, 0), (0, 1)], [(0, 1), (0, 7)], [(0, 1), (1, 1)], [(0, 1), (-1, 1)],
            [(0, -6)], [(0, 1), (0, -6)], [(0, 1), None], [(0, 1), 0], [0], [None], [[0, 1]], [(0, 1), [0, 3]],
            [(0,)], [(0, 1, 2)], [()], [[]], [(0, True)], [(False, 1)], [(0, 1), (False, 3)], [(0, 1), True],
            [(0, 1.0)], ((0, 1),), ((0, 1), (0, 3)), (0, 1), "all", None, 1, {}, {(0, 1): 1},
        ):
            self.check(False, rows, 1, NONE, (things, [(0, 2)], []))
        self.check(True, rows, 1, NONE, ([(0, 1)], [(0, 2)], []))
        self.check(True, rows, 1, NONE, ([(0, 1), (0, 3)], [(0, 2)], []))

    def test_lists_that_are_none(self):
        for cells in (((0, 0),), (0, 0), {}, {(0, 0): 1}, None, "all", "", 1, True):
            self.check(False, ["?0?"], 1, NONE, ([(0, 1)], cells, []))
            self.check(False, ["?0?"], 1, NONE, ([(0, 1)], [(0, 0)], cells))
            self.check(False, ["?2?"], 1, NONE, ([(0, 1)], cells, [(0, 0)]))

    def test_things_that_nothing_fits(self):
        self.check(False, ["?3?"], 1, NONE, ([(0, 1)], [], [(0, 0)]))
        self.check(False, ["0?1"], 1, NONE, ([(0, 0), (0, 2)], [(0, 1)], []))
        self.check(False, ["?1?"], 1, ([], [(0, 0), (0, 2)]), ([(0, 1)], [(0, 0)], []))
        self.check(False, ["?1??"], 1, ([], [(0, 0), (0, 2)]), ([(0, 1)], [(0, 3)], []))
        self.check(False, ["3#?"], 1, NONE, ([(0, 0), "all"], [], [(0, 2)]))
        self.check(True, ["0#?"], 1, NONE, ([(0, 0), "all"], [], [(0, 2)]))

    def test_against_going_through_all_choices(self):
        dice = random.Random(9)
        seen = {True: 0, False: 0}
        for rows, stones in boards_to_ask(60):
            cells = closed_by_hand(rows)
            for things in thing_lists(rows):
                finding = dice.choice((NONE, some_finding(dice, cells)))
                told = follows_by_hand(rows, stones, things, finding)
                for step in (some_finding(dice, cells), some_finding(dice, cells), told or ([], [])):
                    right = told is not None and step != NONE and all(
                        set(part) <= set(whole) for part, whole in zip(step, told)
                    )
                    self.check(right, rows, stones, finding, (things, step[0], step[1]))
                    seen[right] += 1
        self.assertGreater(min(seen.values()), 100)


class OwnListsTest(unittest.TestCase):
    def asked(self):
        board = board_of(["?1?2?", "#####", "??###"], 3)
        return board, [(0, 1), (0, 3)], ([(2, 0)], []), ([(0, 1), (0, 3)], [(0, 0)], [(0, 2), (0, 4)])

    def test_nothing_handed_in_is_changed(self):
        board, things, finding, step = self.asked()
        follows(board, things, finding)
        holds(board, finding, step)
        holds(board, finding, (things, [(0, 4), (0, 0)], []))
        self.assertEqual((board, things, finding, step), self.asked())

    def test_what_is_given_is_the_askers_own(self):
        board, things, finding, step = self.asked()
        for asked_for in (things, ["all"], [(0, 1)]):
            before = follows(board, asked_for, finding)
            told = follows(board, asked_for, finding)
            self.assertEqual(len({id(some) for some in containers([told, before, finding])}), 7)
            for cells in told:
                cells.append((9, 9))
            self.assertEqual(follows(board, asked_for, finding), before)
        self.assertEqual((board, things, finding, step), self.asked())

    def test_what_is_done_later_changes_nothing(self):
        board, things, finding, step = self.asked()
        told = follows(board, things, finding)
        for some in containers([board, things, finding]):
            some.clear()
        self.assertEqual(told, ([(0, 0)], [(0, 2), (0, 4)]))

    def test_what_was_changed_is_answered_as_it_is_now(self):
        board, things, finding, step = self.asked()
        self.assertTrue(holds(board, finding, step))
        finding[0].append((0, 0))
        self.assertFalse(holds(board, finding, step))
        self.assertEqual(follows(board, things, finding), ([], [(0, 2), (0, 4)]))
        step[1].clear()
        self.assertTrue(holds(board, finding, step))
        board[0][0] = "?1?1?"
        self.assertFalse(holds(board, finding, step))
        things[1] = "all"
        self.assertEqual(follows(board, things, ([], [(0, 0)])), ([(0, 2)], []))


if __name__ == "__main__":
    unittest.main()
