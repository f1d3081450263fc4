"""Points 34 and 35, and of point 2 what is told of the desk."""

import itertools
import unittest

from byhand import chance_boards, closed_by_hand, great_boards, layings_by_hand, small_boards
from stonelay.boards import board_of, opened
from stonelay.chances import best
from stonelay.counts import count
from stonelay.desk import Desk
from stonelay.errors import (
    NoBoard, NoCell, NoCount, NoLaying, NoNumber, NoRow, NoTable, NoText, StoneError, TooGreat,
)
from stonelay.sure import share, shares, sure
from stonelay.texts import written
from stonelay.thoughts import thoughts

FIFTEEN = "5/????????/11111111/???????#"
THIRTY_ONE = "0/00000000/0?00?00?/00000000/########/0?00?00?/00000###"
NO_NUMBERS = ("", "00", "01", "0000", "12345", "00001", "+1", "-1", "1.", "1,", "1\n", "\n1", "a", "x1", "1x", "?", "-")


def desk_with(text):
    desk = Desk()
    desk.say("board " + text)
    return desk


class AnswersTest(unittest.TestCase):
    def check(self, text, row, told):
        with self.subTest(text=text, row=row):
            answer = desk_with(text).say(row)
            self.assertEqual(answer, told)
            self.assertIs(type(answer), str)

    def test_board(self):
        desk = Desk()
        self.assertEqual(desk.say("board 2/2?/??"), "ok")
        self.assertEqual(desk.say("count"), "3")
        self.assertEqual(desk.say("board 1/????"), "ok")
        self.assertEqual(desk.say("count"), "4")

    def test_count(self):
        self.check("2/2?/??", "count", "3")
        self.check("2/1?/??", "count", "0")
        self.check("1/?1?", "count", "2")
        self.check("3/?1?", "count", "0")
        self.check("0/0", "count", "1")
        self.check("1/0", "count", "0")
        self.check("32" + "/????????" * 8, "count", "1832624140942590534")

    def test_share(self):
        self.check("1/?1?", "share 0 0", "1/2")
        self.check("2/???", "share 0 2", "2/3")
        self.check("1/0??", "share 0 1", "0")
        self.check("1/0??", "share 0 2", "1")
        self.check("24" + "/????????" * 8, "share 7 7", "3/8")

    def test_sure(self):
        self.check("1/?1?", "sure", "- / -")
        self.check("0/0?", "sure", "0,1 / -")
        self.check("1/1?", "sure", "- / 0,1")
        self.check("1/?1?1?", "sure", "0,0 0,4 / 0,2")
        self.check("2/?1?1?", "sure", "0,2 / 0,0 0,4")
        self.check("0/???", "sure", "0,0 0,1 0,2 / -")
        self.check("3/???", "sure", "- / 0,0 0,1 0,2")
        self.check("0/0", "sure", "- / -")

    def test_thoughts(self):
        self.check("1/?1?", "thoughts", "0 0")
        self.check("0/0?", "thoughts", "1 1")
        self.check("2/1??1?/?1?##", "thoughts", "2 3")
        self.check("2/?1?0#1?", "thoughts", "3 3")
        self.check("1/1?#?", "thoughts", "2 2")
        self.check("0/0", "thoughts", "0 0")
        self.check("64" + "/????????" * 8, "thoughts", "1 64")

    def test_tell(self):
        desk = desk_with("1/????")
        self.assertEqual(desk.say("tell 0 1 1"), "ok")
        self.assertEqual(desk.say("count"), "2")
        self.assertEqual(desk.say("sure"), "0,3 / -")
        self.assertEqual(desk.say("tell 0 3 0"), "ok")
        self.assertEqual(desk.say("sure"), "0,2 / 0,0")
        self.assertEqual(desk.say("tell 0 2 8"), "ok")
        self.assertEqual(desk.say("count"), "0")

    def test_every_number_is_told(self):
        for number in range(9):
            desk = desk_with("8/???/???/???")
            self.assertEqual(desk.say(f"tell 1 1 {number}"), "ok")
            self.assertEqual(desk.say("count"), "1" if number == 8 else "0")

    def test_best(self):
        self.check("1/?1?", "best 1", "0,0 1/2")
        self.check("1/???", "best 2", "0,0 2/3")
        self.check("1/?1??", "best 1", "0,3 1")
        self.check("1/?1?", "best 0", "0,0 1")
        self.check("1/1?", "best 0", "-")
        self.check("1/1?", "best 3", "-")
        self.check("0/0", "best 0", "-")
        self.check("1/#??/???", "best 3", self.best_by_functions((["#??", "???"], 1), 3))

    def best_by_functions(self, board, depth):
        told = best(board, depth)
        if told is None:
            return "-"
        (row, column), (top, bottom) = told
        return f"{row},{column} " + (str(top) if bottom == 1 else f"{top}/{bottom}")

    def test_against_the_functions(self):
        for rows, stones in small_boards(150) + great_boards(20):
            board = board_of(rows, stones)
            text = written(board)
            self.check(text, "count", str(count(board)))
            if count(board):
                for (row, column), (top, bottom) in shares(board).items():
                    told = str(top) if bottom == 1 else f"{top}/{bottom}"
                    self.check(text, f"share {row} {column}", told)
                lists = [" ".join(f"{row},{column}" for row, column in cells) or "-" for cells in sure(board)]
                self.check(text, "sure", lists[0] + " / " + lists[1])
        for rows, stones in chance_boards(60):
            board = board_of(rows, stones)
            text = written(board)
            steps, finding = thoughts(board)
            self.check(text, "thoughts", f"{len(steps)} {len(finding[0]) + len(finding[1])}")
            for depth in range(4):
                self.check(text, f"best {depth}", self.best_by_functions(board, depth))

    def test_tell_opens_the_cell(self):
        for rows, stones in chance_boards(60):
            board = board_of(rows, stones)
            for cell in closed_by_hand(rows):
                for number in (0, 1, 5):
                    desk = desk_with(written(board))
                    self.assertEqual(desk.say(f"tell {cell[0]} {cell[1]} {number}"), "ok")
                    told = opened(board, {cell: number})
                    self.assertEqual(desk.say("count"), str(count(told)))
                    with self.assertRaises(NoCell):
                        desk.say(f"tell {cell[0]} {cell[1]} {number}")
                    for other in closed_by_hand(told[0]):
                        if layings_by_hand(*told):
                            top, bottom = share(told, other)
                            answer = desk.say(f"share {other[0]} {other[1]}")
                            self.assertEqual(answer, str(top) if bottom == 1 else f"{top}/{bottom}")


class RefusalsTest(unittest.TestCase):
    def refused(self, kind, row, text=None):
        """That a desk refuses the row, with such a board or with none, and keeps its board."""
        with self.subTest(row=row, text=text):
            desk = Desk() if text is None else desk_with(text)
            with self.assertRaises(StoneError) as caught:
                desk.say(row)
            self.assertIs(type(caught.exception), kind)
            self.assertIsInstance(caught.exception, ValueError)
            if text is None:
                with self.assertRaises(NoTable):
                    desk.say("sure")
            else:
                self.assertEqual(self.asked(desk), self.asked(desk_with(text)))

    def asked(self, desk):
        """What a desk answers or refuses to some rows."""
        told = []
        for row in ["count", "sure", "best 1", "share 0 0", "share 0 1", "share 1 0", "share 1 1"]:
            try:
                told.append(desk.say(row))
            except StoneError as error:
                told.append(type(error))
        return told

    def test_no_text(self):
        for row in (None, 1, 0, True, [], ["count"], ("count",), {}, {"count": 1}, ["board", "1/?"]):
            for text in (None, "1/?1?"):
                self.refused(NoRow, row, text)

    def test_unknown_first_words(self):
        for row in (
            "", "Count", "COUNT", "counts", "coun", "count\n", "\ncount", "\n", "boards 1/?", "x", "1/?", "tell\n0 0 0",
            "shares 0 0", "plan 1", "board\n1/?", "0", "-", "sure\n", "cell 0 0", "Best 1", "witnesses 0 0",
        ):
            for text in (None, "1/?1?"):
                self.refused(NoRow, row, text)

    def test_a_word_too_many_or_too_few(self):
        for row in (
            "board", "board 1/? 1/?", "board 1/? x", "count 1", "count x", "share", "share 0", "share 0 0 0", "sure 0",
            "sure 0 0", "thoughts 1", "tell", "tell 0", "tell 0 0", "tell 0 0 0 0", "best", "best 1 1", "best 0 0 0",
        ):
            for text in (None, "1/?1?"):
                self.refused(NoRow, row, text)

    def test_words_without_signs_count_as_words(self):
        for row in (
            " ", "  ", " count", "count ", "count  ", " count ", "board  1/?", " board 1/?", "board 1/? ", "share  0 0",
            "share 0  0", "share 0 0 ", " share 0 0", "sure ", " sure", "thoughts ", " thoughts", "tell  0 0 0",
            "tell 0 0 0 ", " tell 0 0 0", "best  1", "best 1 ", " best 1",
        ):
            for text in (None, "1/?1?"):
                self.refused(NoRow, row, text)

    def test_words_without_signs_in_the_right_number(self):
        # By its first word and the number of its words each is a row, so what is wrong is the word itself.
        for text in (None, "1/?1?"):
            self.refused(NoText, "board ", text)
            for row in ("share  0", "share 0 ", "share  ", "tell  0 0", "tell 0  0", "tell 0 0 ", "best "):
                self.refused(NoNumber, row, text)

    def test_numbers_that_are_none(self):
        for word in NO_NUMBERS:
            for text in (None, "1/?1?"):
                for row in (
                    f"share {word} 0", f"share 0 {word}", f"tell {word} 0 0", f"tell 0 {word} 0", f"tell 0 0 {word}",
                    f"best {word}", f"share {word} {word}", f"tell 9 9 {word}",
                ):
                    self.refused(NoNumber, row, text)

    def test_numbers_that_are_some(self):
        for word in ("0", "1", "9", "10", "99", "100", "1000", "9999"):
            self.refused(NoTable, f"share {word} 0")
            self.refused(NoTable, f"tell 0 {word} {word}")
            self.refused(NoTable, f"best {word}")

    def test_no_board_yet(self):
        for row in ("count", "share 0 0", "sure", "thoughts", "tell 0 0 0", "best 1"):
            self.refused(NoTable, row)
        # Ahead of what is wrong with a cell, a number or a depth.
        for row in ("share 99 99", "tell 99 99 9", "tell 0 0 9", "best 4", "best 9999"):
            self.refused(NoTable, row)

    def test_no_board_after_one_that_was_refused(self):
        desk = Desk()
        for text in ("", "2", "x/?", "2/", "2/9", "65/?"):
            with self.assertRaises(StoneError):
                desk.say("board " + text)
            with self.assertRaises(NoTable):
                desk.say("count")

    def test_no_closed_cell(self):
        for row in ("0 1", "0 3", "1 1", "0 4", "2 0", "9 9", "9999 9999", "0 9999", "9999 0", "8 8"):
            self.refused(NoCell, "share " + row, "1/?1?#/?0??")
            self.refused(NoCell, "tell " + row + " 0", "1/?1?#/?0??")
            # Ahead of a number above 8.
            self.refused(NoCell, "tell " + row + " 9", "1/?1?#/?0??")
            # Ahead of what the function refuses.
            self.refused(NoCell, "share " + row, "9/?1?#/?0??")

    def test_a_cell_of_a_great_part_that_is_open(self):
        self.refused(NoCell, "share 1 0", FIFTEEN)
        self.refused(NoCell, "share 2 7", FIFTEEN)
        self.refused(TooGreat, "share 2 6", FIFTEEN)

    def test_a_number_above_8(self):
        for number in (9, 10, 99, 1000, 9999):
            self.refused(NoCount, f"tell 0 0 {number}", "1/?1?")
            self.refused(NoCount, f"tell 0 0 {number}", FIFTEEN)

    def test_a_board_that_is_refused(self):
        for start in (None, "1/?1?"):
            for text in ("", "x", "2", "2?", "02/?", "12345/?", "-1/?", "\n2/?"):
                self.refused(NoText, "board " + text, start)
            for text in ("2/", "2/9", "2/?/??", "65/", "2/?\n", "2/" + "?" * 9, "2" + "/?" * 9):
                self.refused(NoBoard, "board " + text, start)
            for text in ("65/?", "9999/??/??"):
                self.refused(NoCount, "board " + text, start)

    def test_depths_beyond(self):
        for depth in (4, 5, 10, 9999):
            self.refused(TooGreat, f"best {depth}", "1/?1?")
            self.refused(TooGreat, f"best {depth}", "3/?1?")
        self.refused(TooGreat, "best 1", "1/???/???/???")

    def test_great_parts(self):
        for row in ("count", "sure", "thoughts", "share 0 0", "share 2 6"):
            self.refused(TooGreat, row, FIFTEEN)
        self.refused(TooGreat, "thoughts", THIRTY_ONE)

    def test_no_laying(self):
        for text in ("2/?1?", "0/?1?", "1/3#?/###", "1/2?"):
            cell = closed_by_hand(text.split("/")[1:])[0]
            for row in (f"share {cell[0]} {cell[1]}", "sure", "thoughts", "best 0", "best 3"):
                self.refused(NoLaying, row, text)
        for row in ("sure", "thoughts", "best 1"):
            self.refused(NoLaying, row, "1/0")

    def test_two_refusals_due_at_once(self):
        # In the order of the kinds: NoRow, NoNumber, NoTable, NoCell, NoCount, then what the function refuses.
        self.refused(NoRow, "share 00")
        self.refused(NoRow, "tell x x")
        self.refused(NoRow, "counts 00", "1/?1?")
        self.refused(NoNumber, "share 00 0")
        self.refused(NoNumber, "share 9 00", "1/?1?")
        self.refused(NoNumber, "tell 9 9 00", "1/?1?")
        self.refused(NoNumber, "tell 00 0 9", "1/?1?")
        self.refused(NoNumber, "best 04", "1/?1?")
        self.refused(NoNumber, "best 04", FIFTEEN)
        self.refused(NoTable, "tell 9 9 9")
        self.refused(NoCell, "tell 9 9 9", "1/?1?")
        self.refused(NoCell, "share 0 1", "2/?1?")
        self.refused(NoCount, "tell 0 0 9", "2/?1?")


class KeptTest(unittest.TestCase):
    def test_a_board_that_is_refused_leaves_the_one_that_is_there(self):
        desk = desk_with("1/????")
        desk.say("tell 0 1 1")
        for row in ("board 2/9", "board x", "board 65/?", "board", "tell 0 1 0", "tell 0 0 9", "best 4", "share 9 9"):
            with self.assertRaises(StoneError):
                desk.say(row)
            self.assertEqual(desk.say("count"), "2")
            self.assertEqual(desk.say("sure"), "0,3 / -")

    def test_asking_changes_nothing(self):
        desk = desk_with("1/????")
        desk.say("tell 0 1 1")
        rows = ["count", "share 0 0", "sure", "thoughts", "best 0", "best 1", "best 3"]
        answers = [desk.say(row) for row in rows]
        self.assertEqual(answers, ["2", "1/2", "0,3 / -", "1 1", "0,0 1", "0,3 1", "0,3 1"])
        for order in itertools.islice(itertools.permutations(range(7)), 0, None, 500):
            self.assertEqual([desk.say(rows[place]) for place in order], [answers[place] for place in order])

    def test_two_desks_know_nothing_of_each_other(self):
        one, other = Desk(), Desk()
        one.say("board 1/???")
        with self.assertRaises(NoTable):
            other.say("count")
        other.say("board 1/???")
        one.say("tell 0 0 0")
        self.assertEqual((one.say("count"), other.say("count")), ("1", "3"))
        other.say("board 2/???")
        self.assertEqual((one.say("sure"), other.say("sure")), ("0,1 / 0,2", "- / -"))
        with self.assertRaises(NoTable):
            Desk().say("count")

    def test_a_new_board_takes_the_place_of_the_old_one(self):
        desk = desk_with("1/???")
        desk.say("tell 0 0 0")
        desk.say("board 1/???")
        self.assertEqual(desk.say("count"), "3")
        self.assertEqual(desk.say("tell 0 0 0"), "ok")


if __name__ == "__main__":
    unittest.main()
