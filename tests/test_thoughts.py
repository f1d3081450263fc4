"""Point 24 with the refusals of 13, the third promise of 3, and of point 2 what is told of thoughts."""

import unittest

from byhand import (
    closed_by_hand, containers, count_by_hand, follows_by_hand, great_boards, layings_by_hand, numbers_by_hand,
    small_boards, thing_lists, thoughts_by_hand,
)
from stonelay.boards import board_of
from stonelay.errors import NoLaying, StoneError, TooGreat
from stonelay.sure import sure
from stonelay.thinking import follows, holds
from stonelay.thoughts import thoughts

FIFTEEN = ["????????", "11111111", "???????#"]
# Thirty open cells that are not bare, six closed ones and eight bare ones.
THIRTY = ["00000000", "0?00?00?", "00000000", "########", "0?00?00?", "0000####", "########", "00000000"]
THIRTY_ONE = THIRTY[:5] + ["00000###"] + THIRTY[6:]


class ThoughtsTest(unittest.TestCase):
    def check(self, rows, stones, steps, finding):
        with self.subTest(rows=rows, stones=stones):
            self.assertEqual(thoughts(board_of(rows, stones)), (steps, finding))

    def test_nothing_follows(self):
        self.check(["?1?"], 1, [], ([], []))
        self.check(["??"], 1, [], ([], []))
        self.check(["0"], 0, [], ([], []))
        self.check(["#"], 0, [], ([], []))
        self.check(["00#?1?"], 1, [], ([], []))

    def test_one_thing(self):
        self.check(["?0?"], 0, [([(0, 1)], [(0, 0), (0, 2)], [])], ([(0, 0), (0, 2)], []))
        self.check(["?2?"], 2, [([(0, 1)], [], [(0, 0), (0, 2)])], ([], [(0, 0), (0, 2)]))
        self.check(["??"], 0, [(["all"], [(0, 0), (0, 1)], [])], ([(0, 0), (0, 1)], []))
        self.check(["??"], 2, [(["all"], [], [(0, 0), (0, 1)])], ([], [(0, 0), (0, 1)]))

    def test_two_things(self):
        self.check(["1??", "?1?"], 1, [([(0, 0), (1, 1)], [(0, 2), (1, 2)], [])], ([(0, 2), (1, 2)], []))
        self.check(["1??", "?3?"], 3, [([(0, 0), (1, 1)], [], [(0, 2), (1, 2)])], ([], [(0, 2), (1, 2)]))
        self.check(["?1??"], 1, [([(0, 1), "all"], [(0, 3)], [])], ([(0, 3)], []))
        self.check(["?1??"], 2, [([(0, 1), "all"], [], [(0, 3)])], ([], [(0, 3)]))

    def test_open_cells_come_sorted_and_all_behind_them(self):
        self.check(["?0#", "###", "0?#"], 0, [
            ([(0, 1)], [(0, 0)], []), ([(2, 0)], [(2, 1)], []),
        ], ([(0, 0), (2, 1)], []))
        self.check(["1?#?"], 1, [([(0, 0)], [], [(0, 1)]), (["all"], [(0, 3)], [])], ([(0, 3)], [(0, 1)]))
        self.check(["1?#?"], 2, [([(0, 0)], [], [(0, 1)]), (["all"], [], [(0, 3)])], ([], [(0, 1), (0, 3)]))

    def test_one_thing_goes_ahead_of_two_though_these_come_first_by_their_places(self):
        self.check(["1??#0?", "?1?###"], 1, [
            ([(0, 4)], [(0, 5)], []), ([(0, 0), (1, 1)], [(0, 2), (1, 2)], []),
        ], ([(0, 2), (0, 5), (1, 2)], []))
        self.check(["1??#", "?1?#", "####", "0?##"], 1, [
            ([(3, 0)], [(3, 1)], []), ([(0, 0), (1, 1)], [(0, 2), (1, 2)], []),
        ], ([(0, 2), (1, 2), (3, 1)], []))

    def test_gone_through_anew_after_each_step(self):
        # What the second one finds lets the first one tell more, ahead of all that comes behind both.
        self.check(["?1?0#1?"], 2, [
            ([(0, 3)], [(0, 2)], []), ([(0, 1)], [], [(0, 0)]), ([(0, 5)], [], [(0, 6)]),
        ], ([(0, 2)], [(0, 0), (0, 6)]))
        # After a pair the single ones come first again.
        self.check(["1??1?###", "?1?#####", "########", "1??#####", "?1?#####"], 3, [
            ([(0, 0), (1, 1)], [(0, 2), (1, 2)], []), ([(0, 3)], [], [(0, 4)]),
            ([(3, 0), (4, 1)], [(3, 2), (4, 2)], []),
        ], ([(0, 2), (1, 2), (3, 2), (4, 2)], [(0, 4)]))

    def test_pairs_come_by_their_places(self):
        rows = ["1??#", "?1?#", "####", "1??#", "?1?#"]
        self.check(rows, 2, [
            ([(0, 0), (1, 1)], [(0, 2), (1, 2)], []), ([(3, 0), (4, 1)], [(3, 2), (4, 2)], []),
        ], ([(0, 2), (1, 2), (3, 2), (4, 2)], []))
        # The first open cell with all goes ahead of the second and the third one, which tell something, too.
        self.assertEqual(follows_by_hand(["?11?", "???1"], 2, [(0, 2), (1, 3)], ([], [])), ([(1, 1)], []))
        self.check(["?11?", "???1"], 2, [
            ([(0, 1), "all"], [], [(0, 3)]), ([(0, 2)], [(1, 1), (1, 2)], []),
        ], ([(1, 1), (1, 2)], [(0, 3)]))

    def test_sure_cells_that_no_two_things_tell(self):
        found = 0
        for rows, stones in small_boards(300):
            if layings_by_hand(rows, stones):
                board = board_of(rows, stones)
                found += thoughts(board)[1] != sure(board)
        # Else the boards would try too little.
        self.assertGreater(found, 0)

    def test_against_going_through_all_choices(self):
        lengths = {}
        for rows, stones in small_boards(500):
            if len(closed_by_hand(rows)) <= 7 and layings_by_hand(rows, stones):
                steps, finding = thoughts_by_hand(rows, stones)
                self.check(rows, stones, steps, finding)
                for things, clears, laid in steps:
                    lengths[len(things)] = lengths.get(len(things), 0) + 1
        self.assertGreater(min(lengths[1], lengths[2]), 10)

    def test_kinds(self):
        told = thoughts(board_of(["?1?2?#0?"], 2))
        self.assertIs(type(told), tuple)
        self.assertIs(type(told[0]), list)
        self.assertIs(type(told[1]), tuple)
        for step in told[0]:
            self.assertIs(type(step), tuple)
            self.assertEqual([type(part) for part in step], [list, list, list])

    def test_sixty_four_closed_cells(self):
        rows = ["?" * 8] * 8
        cells = closed_by_hand(rows)
        self.check(rows, 0, [(["all"], cells, [])], (cells, []))
        self.check(rows, 64, [(["all"], [], cells)], ([], cells))
        self.check(rows, 20, [], ([], []))


class ThirdPromiseTest(unittest.TestCase):
    def test_each_step_tells_all_that_follows_and_holds_and_is_sure(self):
        many = 0
        for rows, stones in small_boards(300) + great_boards(80):
            not_bare = [cell for cell in numbers_by_hand(rows) if is_not_bare(rows, cell)]
            if not count_by_hand(rows, stones) or len(not_bare) > 30:
                continue
            board = board_of(rows, stones)
            steps, finding = thoughts(board)
            known = ([], [])
            for step in steps:
                self.assertTrue(holds(board, known, step), (rows, step))
                self.assertEqual(follows(board, step[0], known), (step[1], step[2]))
                self.assertEqual((sorted(step[1]), sorted(step[2])), (step[1], step[2]))
                known = (sorted(known[0] + step[1]), sorted(known[1] + step[2]))
                many += 1
            self.assertEqual(finding, known)
            clears, laid = sure(board)
            self.assertLessEqual(set(finding[0]), set(clears))
            self.assertLessEqual(set(finding[1]), set(laid))
        self.assertGreater(many, 200)

    def test_when_they_end_no_one_or_two_things_tell_more(self):
        for rows, stones in small_boards(200):
            if layings_by_hand(rows, stones):
                board = board_of(rows, stones)
                finding = thoughts(board)[1]
                for things in thing_lists(rows):
                    self.assertEqual(follows(board, things, finding), ([], []), (rows, things))
                    if len(closed_by_hand(rows)) <= 5:
                        self.assertEqual(follows_by_hand(rows, stones, things, finding), ([], []))


def is_not_bare(rows, cell):
    """Whether an open cell has a closed cell around it."""
    return any(max(abs(cell[0] - row), abs(cell[1] - column)) == 1 for row, column in closed_by_hand(rows))


class RefusalsTest(unittest.TestCase):
    def refused(self, kind, rows, stones):
        with self.subTest(rows=rows, stones=stones):
            with self.assertRaises(StoneError) as caught:
                thoughts(board_of(rows, stones))
            self.assertIs(type(caught.exception), kind)
            self.assertIsInstance(caught.exception, ValueError)

    def not_bare(self, rows):
        return len([cell for cell in numbers_by_hand(rows) if is_not_bare(rows, cell)])

    def test_thirty_open_cells_that_are_not_bare(self):
        self.assertEqual(self.not_bare(THIRTY), 30)
        self.assertEqual(len(numbers_by_hand(THIRTY)), 38)
        steps, finding = thoughts(board_of(THIRTY, 0))
        self.assertEqual(finding, (closed_by_hand(THIRTY), []))
        self.assertEqual(steps, [
            ([(0, 0)], [(1, 1)], []), ([(0, 3)], [(1, 4)], []), ([(0, 6)], [(1, 7)], []),
            ([(4, 0)], [(4, 1)], []), ([(4, 3)], [(4, 4)], []), ([(4, 6)], [(4, 7)], []),
        ])

    def test_thirty_one(self):
        self.assertEqual(self.not_bare(THIRTY_ONE), 31)
        self.refused(TooGreat, THIRTY_ONE, 0)

    def test_more_bare_ones(self):
        rows = ["0" * 8] * 7 + ["?" + "0" * 7]
        self.assertEqual(thoughts(board_of(rows, 0)), ([([(6, 0)], [(7, 0)], [])], ([(7, 0)], [])))

    def test_a_part_of_fifteen_cells(self):
        self.refused(TooGreat, FIFTEEN, 5)
        self.refused(TooGreat, FIFTEEN + ["########", "1?######"], 6)

    def test_too_great_goes_ahead_of_no_laying(self):
        self.refused(TooGreat, THIRTY_ONE, 1)
        self.refused(TooGreat, THIRTY_ONE[:7] + ["00000003"], 0)
        self.refused(TooGreat, FIFTEEN, 0)
        self.refused(TooGreat, FIFTEEN + ["########", "3#######"], 5)
        self.refused(TooGreat, FIFTEEN + ["########", "2?######"], 5)

    def test_no_laying(self):
        for rows, stones in (
            (["2?"], 1), (["?1?"], 0), (["?1?"], 2), (["3#??"], 1), (["0"], 1), (["1"], 0), (["#"], 3),
            (THIRTY, 1), (THIRTY[:7] + ["00000003"], 0),
        ):
            self.refused(NoLaying, rows, stones)

    def test_no_laying_though_any_two_things_fit(self):
        for rows, stones in ((["#0??0"], 1), (["#?", "00", "1?", "??"], 2), (["#33?", "???2"], 3)):
            for things in thing_lists(rows):
                self.assertIsNotNone(follows_by_hand(rows, stones, things, ([], [])))
            self.refused(NoLaying, rows, stones)


class OwnListsTest(unittest.TestCase):
    ROWS = ["?1?2?#0?", "########", "1?#?0?1?"]

    def test_nothing_handed_in_is_changed(self):
        board = board_of(self.ROWS, 4)
        thoughts(board)
        self.assertEqual(board, (self.ROWS, 4))

    def test_what_is_given_is_the_askers_own(self):
        board = board_of(self.ROWS, 4)
        before = thoughts(board)
        self.assertGreater(len(before[0]), 3)
        told = thoughts(board)
        held = containers([told, before])
        self.assertEqual(len({id(some) for some in held}), len(held))
        for some in containers(told):
            some.append((9, 9))
            some.reverse()
        self.assertEqual(thoughts(board), before)

    def test_what_is_done_to_the_board_later_changes_nothing(self):
        board = board_of(self.ROWS, 4)
        told = thoughts(board)
        board[0].clear()
        self.assertEqual(told, thoughts(board_of(self.ROWS, 4)))

    def test_a_board_that_was_changed_is_answered_as_it_is_now(self):
        board = board_of(["?1?"], 1)
        self.assertEqual(thoughts(board), ([], ([], [])))
        board[0][0] = "?10"
        self.assertEqual(thoughts(board), ([([(0, 1)], [], [(0, 0)])], ([], [(0, 0)])))


if __name__ == "__main__":
    unittest.main()
