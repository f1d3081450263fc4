"""Points 29 to 32, the fifth promise of 3, and of point 2 what is told of chances and plans."""

import fractions
import unittest

from byhand import (
    chance_boards, closed_by_hand, containers, layings_by_hand, numbers_told_by_hand, opened_by_hand, small_boards,
    stones_beside, through_at_by_hand, through_by_hand,
)
from stonelay.boards import board_of
from stonelay.chances import best, chances, plan
from stonelay.errors import NoLaying, StoneError, TooGreat

DEPTHS = (0, 1, 2, 3)
NINE = ["???", "???", "???"]


def as_fraction(top, bottom):
    told = fractions.Fraction(top, bottom)
    return (told.numerator, told.denominator)


def some_clear(rows, stones):
    """Whether some closed cell is clear in some laying."""
    return any(cell not in laying for cell in closed_by_hand(rows) for laying in layings_by_hand(rows, stones))


def comes_through(laying, way):
    """Whether one comes through in this laying, going along a plan."""
    while way is not None:
        cell, plans = way
        if cell in laying:
            return False
        way = plans[stones_beside(cell, laying)]
    return True


class ChancesTest(unittest.TestCase):
    def check(self, rows, stones, depth, told):
        with self.subTest(rows=rows, stones=stones, depth=depth):
            self.assertEqual(chances(board_of(rows, stones), depth), told)

    def test_depth_0(self):
        self.check(["?1?"], 1, 0, {(0, 0): (1, 1), (0, 2): (1, 1)})
        self.check(["1?"], 1, 0, {(0, 1): (1, 1)})
        self.check(["??"], 2, 0, {(0, 0): (1, 1), (0, 1): (1, 1)})

    def test_depth_1_is_the_share_of_those_that_are_clear(self):
        self.check(["?1?"], 1, 1, {(0, 0): (1, 2), (0, 2): (1, 2)})
        self.check(["1?"], 1, 1, {(0, 1): (0, 1)})
        self.check(["0?"], 0, 1, {(0, 1): (1, 1)})
        self.check(["?1???"], 2, 1, {(0, 0): (1, 2), (0, 2): (1, 2), (0, 3): (1, 2), (0, 4): (1, 2)})
        self.check(["???"], 1, 1, {(0, 0): (2, 3), (0, 1): (2, 3), (0, 2): (2, 3)})

    def test_what_a_number_tells_helps(self):
        # An outer cell tells whether the middle one has the stone, the middle one does not tell which outer one.
        self.check(["???"], 1, 2, {(0, 0): (2, 3), (0, 1): (1, 3), (0, 2): (2, 3)})
        self.check(["???"], 1, 3, {(0, 0): (2, 3), (0, 1): (1, 3), (0, 2): (2, 3)})
        self.check(["??#?"], 1, 3, {(0, 0): (2, 3), (0, 1): (2, 3), (0, 3): (1, 3)})

    def test_more_openings_than_clear_cells(self):
        # With all clear cells open nothing is opened any more.
        self.check(["??"], 1, 3, {(0, 0): (1, 2), (0, 1): (1, 2)})
        self.check(["?"], 0, 3, {(0, 0): (1, 1)})
        self.check(["??"], 2, 3, {(0, 0): (0, 1), (0, 1): (0, 1)})
        self.check(["??"], 2, 1, {(0, 0): (0, 1), (0, 1): (0, 1)})

    def test_no_closed_cell(self):
        for depth in DEPTHS:
            self.check(["0"], 0, depth, {})
            self.check(["#"], 0, depth, {})

    def test_small_boards_against_all_ways_to_open(self):
        seen = {"less than sure": 0, "unlike at depths": 0}
        for rows, stones in chance_boards(90):
            every = len(layings_by_hand(rows, stones))
            told = {}
            for depth in DEPTHS[1:]:
                told[depth] = {
                    cell: as_fraction(through_at_by_hand(rows, stones, depth, cell), every)
                    for cell in closed_by_hand(rows)
                }
                self.check(rows, stones, depth, told[depth])
                seen["less than sure"] += any(0 < part[0] < part[1] for part in told[depth].values())
            self.check(rows, stones, 0, {cell: (1, 1) for cell in closed_by_hand(rows)})
            seen["unlike at depths"] += told[2] != told[3]
        for kind, many in seen.items():
            self.assertGreater(many, 5, kind)

    def test_eight_closed_cells(self):
        for rows, stones in ((["????", "????"], 3), (["???", "?4?", "???"], 4), (["?" * 8], 4)):
            every = len(layings_by_hand(rows, stones))
            for depth in (1, 2):
                self.check(rows, stones, depth, {
                    cell: as_fraction(through_at_by_hand(rows, stones, depth, cell), every)
                    for cell in closed_by_hand(rows)
                })
            told = chances(board_of(rows, stones), 3)
            self.assertEqual(sorted(told), closed_by_hand(rows))
            greatest = max(fractions.Fraction(*part) for part in told.values())
            self.assertEqual(greatest, fractions.Fraction(through_by_hand(rows, stones, 3), every))

    def test_kinds(self):
        told = chances(board_of(["???"], 1), 2)
        self.assertIs(type(told), dict)
        for part in told.values():
            self.assertIs(type(part), tuple)
            self.assertEqual([type(number) for number in part], [int, int])


class BestTest(unittest.TestCase):
    def check(self, rows, stones, depth, told):
        with self.subTest(rows=rows, stones=stones, depth=depth):
            self.assertEqual(best(board_of(rows, stones), depth), told)

    def test_the_least_of_the_greatest(self):
        self.check(["?1?"], 1, 1, ((0, 0), (1, 2)))
        self.check(["???"], 1, 2, ((0, 0), (2, 3)))
        self.check(["?1??"], 1, 1, ((0, 3), (1, 1)))
        self.check(["??#?"], 1, 2, ((0, 0), (2, 3)))
        self.check(["?#??"], 1, 2, ((0, 2), (2, 3)))

    def test_none_where_no_closed_cell_may_be_clear(self):
        for depth in DEPTHS:
            self.check(["1?"], 1, depth, None)
            self.check(["??"], 2, depth, None)
            self.check(["0"], 0, depth, None)
            self.check(["#"], 0, depth, None)

    def test_depth_0_is_the_least_closed_cell(self):
        self.check(["?1?"], 1, 0, ((0, 0), (1, 1)))
        self.check(["1??"], 1, 0, ((0, 1), (1, 1)))
        # It need not be one that may be clear itself.
        self.check(["1?#?"], 1, 0, ((0, 1), (1, 1)))
        self.check(["1?#?"], 1, 1, ((0, 3), (1, 1)))

    def test_against_the_chances(self):
        for rows, stones in chance_boards(120):
            board = board_of(rows, stones)
            for depth in DEPTHS:
                told = chances(board, depth)
                if some_clear(rows, stones):
                    greatest = max(fractions.Fraction(*part) for part in told.values())
                    cell = min(cell for cell, part in told.items() if fractions.Fraction(*part) == greatest)
                    self.check(rows, stones, depth, (cell, told[cell]))
                    every = len(layings_by_hand(rows, stones))
                    self.assertEqual(greatest, fractions.Fraction(through_by_hand(rows, stones, depth), every))
                else:
                    self.check(rows, stones, depth, None)


class PlanTest(unittest.TestCase):
    def check(self, rows, stones, depth, told):
        with self.subTest(rows=rows, stones=stones, depth=depth):
            self.assertEqual(plan(board_of(rows, stones), depth), told)

    def test_none(self):
        for depth in DEPTHS:
            self.check(["1?"], 1, depth, None)
            self.check(["0"], 0, depth, None)
            self.check(["??"], 2, depth, None)
        self.check(["?1?"], 1, 0, None)
        self.check(["???"], 1, 0, None)

    def test_written_out(self):
        self.check(["?1?"], 1, 1, ((0, 0), {0: None}))
        self.check(["???"], 1, 1, ((0, 0), {0: None, 1: None}))
        self.check(["???"], 1, 2, ((0, 0), {0: ((0, 1), {1: None}), 1: ((0, 2), {1: None})}))
        self.check(["???"], 1, 3, ((0, 0), {0: ((0, 1), {1: None}), 1: ((0, 2), {1: None})}))
        self.check(["???"], 0, 3, ((0, 0), {0: ((0, 1), {0: ((0, 2), {0: None})})}))
        self.check(["???"], 0, 2, ((0, 0), {0: ((0, 1), {0: None})}))

    def test_each_place_is_the_best_of_the_board_so_opened(self):
        for rows, stones in chance_boards(100):
            for depth in DEPTHS:
                self.go_along(rows, stones, depth, plan(board_of(rows, stones), depth))

    def go_along(self, rows, stones, depth, way):
        board = board_of(rows, stones)
        self.assertEqual(plan(board, depth), way)
        if depth == 0 or not some_clear(rows, stones):
            self.assertIsNone(way)
            return
        self.assertIs(type(way), tuple)
        cell, plans = way
        self.assertIs(type(plans), dict)
        self.assertEqual(cell, best(board, depth)[0])
        self.assertEqual(sorted(plans), numbers_told_by_hand(layings_by_hand(rows, stones), cell))
        for number, further in plans.items():
            self.assertIs(type(number), int)
            self.go_along(opened_by_hand(rows, cell, number), stones, depth - 1, further)

    def test_comes_through_in_just_the_told_share(self):
        for rows, stones in chance_boards(100) + [(["????", "????"], 3), (["?" * 8], 4), (["???", "?4?", "???"], 4)]:
            found = layings_by_hand(rows, stones)
            for depth in DEPTHS:
                way = plan(board_of(rows, stones), depth)
                many = len([laying for laying in found if comes_through(laying, way)])
                told = best(board_of(rows, stones), depth)
                self.assertEqual(as_fraction(many, len(found)), (1, 1) if told is None else told[1], (rows, stones))


class RefusalsTest(unittest.TestCase):
    def refused(self, kind, rows, stones, depth):
        for ask in (chances, best, plan):
            with self.subTest(ask=ask.__name__, rows=rows, stones=stones, depth=depth):
                with self.assertRaises(StoneError) as caught:
                    ask(board_of(rows, stones), depth)
                self.assertIs(type(caught.exception), kind)
                self.assertIsInstance(caught.exception, ValueError)

    def test_nine_closed_cells(self):
        for depth in DEPTHS:
            self.refused(TooGreat, NINE, 3, depth)
            self.refused(TooGreat, NINE, 0, depth)
            self.refused(TooGreat, ["?" * 8] * 8, 10, depth)

    def test_depths_beyond(self):
        for depth in (4, -1, 5, -3, 100, 10 ** 999, -10 ** 999):
            self.refused(TooGreat, ["?1?"], 1, depth)
            self.refused(TooGreat, ["0"], 0, depth)
            self.refused(TooGreat, NINE, 3, depth)

    def test_too_great_goes_ahead_of_no_laying(self):
        self.refused(TooGreat, NINE, 10, 1)
        self.refused(TooGreat, ["3#??????", "##??????"], 1, 1)
        for depth in (4, -1):
            self.refused(TooGreat, ["2?"], 1, depth)
            self.refused(TooGreat, ["0"], 1, depth)

    def test_no_laying(self):
        for depth in DEPTHS:
            for rows, stones in ((["2?"], 1), (["?1?"], 0), (["?1?"], 2), (["3#?"], 1), (["????", "????"], 9)):
                self.refused(NoLaying, rows, stones, depth)

    def test_no_laying_and_no_closed_cell(self):
        for depth in DEPTHS:
            for rows, stones in ((["0"], 1), (["#"], 1), (["1"], 0)):
                self.refused(NoLaying, rows, stones, depth)

    def test_many_open_cells_do_not_matter(self):
        rows = ["00000000", "0?00?00?", "00000000", "########", "0?00?00?", "00000000", "########", "00000000"]
        for depth in DEPTHS:
            self.assertEqual(chances(board_of(rows, 0), depth), {cell: (1, 1) for cell in closed_by_hand(rows)})


class OwnListsTest(unittest.TestCase):
    def test_nothing_handed_in_is_changed(self):
        for rows, stones in ((["???"], 1), (["?1??"], 2), (["1?"], 1)):
            board = board_of(rows, stones)
            for depth in DEPTHS:
                chances(board, depth)
                best(board, depth)
                plan(board, depth)
            self.assertEqual(board, (rows, stones))

    def test_what_is_given_is_the_askers_own(self):
        board = board_of(["????", "????"], 3)
        for ask in (chances, plan):
            before = ask(board, 3)
            told = ask(board, 3)
            held = containers([told, before])
            self.assertEqual(len({id(some) for some in held}), len(held))
            for some in containers(told):
                some.clear()
                some[9] = 9
            self.assertEqual(ask(board, 3), before)

    def test_no_dict_stands_at_two_places_in_a_plan(self):
        for rows, stones in chance_boards(60):
            held = containers(plan(board_of(rows, stones), 3))
            self.assertEqual(len({id(some) for some in held}), len(held))

    def test_what_is_done_to_the_board_later_changes_nothing(self):
        board = board_of(["???"], 1)
        told = [chances(board, 2), best(board, 2), plan(board, 2)]
        board[0].clear()
        same = board_of(["???"], 1)
        self.assertEqual(told, [chances(same, 2), best(same, 2), plan(same, 2)])

    def test_a_board_that_was_changed_is_answered_as_it_is_now(self):
        board = board_of(["???"], 1)
        self.assertEqual(best(board, 1), ((0, 0), (2, 3)))
        board[0][0] = "?1?"
        self.assertEqual(best(board, 1), ((0, 0), (1, 2)))
        self.assertEqual(chances(board, 1), {(0, 0): (1, 2), (0, 2): (1, 2)})
        self.assertEqual(plan(board, 1), ((0, 0), {0: None}))


class BoundsTest(unittest.TestCase):
    def test_every_small_board_is_answered_or_refused_as_told(self):
        for rows, stones in small_boards(200):
            board = board_of(rows, stones)
            many = len(closed_by_hand(rows))
            for depth in (0, 1):
                try:
                    told = chances(board, depth)
                except TooGreat:
                    self.assertGreater(many, 8)
                except NoLaying:
                    self.assertLessEqual(many, 8)
                    self.assertEqual(layings_by_hand(rows, stones), [])
                else:
                    self.assertLessEqual(many, 8)
                    self.assertEqual(len(told), many)


if __name__ == "__main__":
    unittest.main()
