"""Boards as texts: the stones in figures and the rows, parted by strokes."""

from stonelay.boards import board_of
from stonelay.errors import NoText

FIGURES = "0123456789"
MOST_FIGURES = 4


def written(board):
    """The text of a board."""
    return "/".join([str(board[1])] + board[0])


def read(text):
    """The board of a text, or a refusal with NoText, else as board_of refuses."""
    if not isinstance(text, str) or "/" not in text:
        raise NoText("a board is written as its stones and its rows, parted by strokes")
    words = text.split("/")
    if not is_number(words[0]):
        raise NoText("the stones are written in one to four figures without noughts ahead")
    return board_of(words[1:], int(words[0]))


def is_number(word):
    """Whether it is written in one to four figures, without noughts ahead but in 0 itself."""
    if not 1 <= len(word) <= MOST_FIGURES or not all([sign in FIGURES for sign in word]):
        return False
    return word == "0" or word[0] != "0"
