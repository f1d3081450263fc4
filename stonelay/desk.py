"""The desk: keeps a board and answers rows of words about it."""

from stonelay.boards import closed, opened
from stonelay.chances import best
from stonelay.counts import count
from stonelay.errors import NoCell, NoCount, NoNumber, NoRow, NoTable
from stonelay.sure import share, sure
from stonelay.texts import is_number, read
from stonelay.thoughts import thoughts

WORDS_OF_ROW = {"board": 2, "count": 1, "share": 3, "sure": 1, "thoughts": 1, "tell": 4, "best": 2}
GREATEST_NUMBER = 8


class Desk:
    """A desk with a board, at first none."""

    def __init__(self):
        self.board = None

    def say(self, row):
        """The answer to a row of words, a text, or a refusal that leaves the board as it is."""
        words = words_of(row)
        if words[0] == "board":
            self.board = read(words[1])
            return "ok"
        numbers = numbers_of_words(words[1:])
        if self.board is None:
            raise NoTable("there is no board yet")
        if words[0] == "tell":
            self.board = told_board(self.board, numbers)
            return "ok"
        return answer(self.board, words[0], numbers)


def words_of(row):
    """The words of a row, or a refusal with NoRow."""
    if not isinstance(row, str):
        raise NoRow("a row is a text")
    words = row.split(" ")
    if WORDS_OF_ROW.get(words[0]) != len(words):
        raise NoRow("there is no such row")
    return words


def numbers_of_words(words):
    """The numbers that the words write, or a refusal with NoNumber."""
    for word in words:
        if not is_number(word):
            raise NoNumber("a number has one to four figures without noughts ahead")
    return [int(word) for word in words]


def told_board(board, numbers):
    """The board opened at a closed cell with a number, or a refusal with NoCell, else with NoCount."""
    cell = closed_cell(board, numbers)
    if numbers[2] > GREATEST_NUMBER:
        raise NoCount("an open cell tells a number from 0 to 8")
    return opened(board, {cell: numbers[2]})


def closed_cell(board, numbers):
    """The closed cell of the first two numbers, or a refusal with NoCell."""
    cell = (numbers[0], numbers[1])
    if cell not in closed(board):
        raise NoCell("there is no closed cell")
    return cell


def answer(board, word, numbers):
    """The answer to a row that only asks."""
    if word == "count":
        return str(count(board))
    if word == "share":
        return fraction_text(share(board, closed_cell(board, numbers)))
    if word == "sure":
        told = sure(board)
        return cells_text(told[0]) + " / " + cells_text(told[1])
    if word == "thoughts":
        return thoughts_text(thoughts(board))
    return best_text(best(board, numbers[0]))


def fraction_text(part):
    """A fraction as top/bottom, or as the top alone where the bottom is 1."""
    if part[1] == 1:
        return str(part[0])
    return str(part[0]) + "/" + str(part[1])


def cell_text(cell):
    """A cell as ROW,COLUMN."""
    return str(cell[0]) + "," + str(cell[1])


def cells_text(cells):
    """The cells with blanks between, or - for none."""
    if cells == []:
        return "-"
    return " ".join([cell_text(cell) for cell in cells])


def thoughts_text(told):
    """How many steps there are and how many cells they find."""
    finding = told[1]
    return str(len(told[0])) + " " + str(len(finding[0]) + len(finding[1]))


def best_text(told):
    """The best cell and its chance, or - for none."""
    if told is None:
        return "-"
    return cell_text(told[0]) + " " + fraction_text(told[1])
