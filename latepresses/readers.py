"""Texts are read: scripts, presses, worlds, games, letters and papers."""

from latepresses.errors import Unreadable
from latepresses.pages import GamePage, PaperPage, ScriptPage, WorldPage
from latepresses.phrases import letter_in, rows_in


def read_script(text):
    """Returns the script that a text shows."""
    return () if text == "" else _read(text, ScriptPage())


def read_rows(text):
    """Returns the presses of ticks that a text shows."""
    line = text.partition("\n")[0]
    return _only_line(text, rows_in(line, True))


def read_letter(text):
    """Returns the letter that a text shows."""
    line = text.partition("\n")[0]
    return _only_line(text, letter_in(line))


def read_world(game, text):
    """Returns the world of a game that a text shows."""
    return _read(text, WorldPage(game))


def read_game(text):
    """Returns the game that a text shows."""
    return _read(text, GamePage())


def read_paper(game, text):
    """Returns the paper of a game that a text shows."""
    return _read(text, PaperPage(game))


def _read(text, page):
    """Returns what a page has taken of the lines of a text."""
    lines = text.split("\n")
    for number, line in enumerate(lines, start=1):
        if not page.take(line):
            raise Unreadable(number)
    if not page.is_whole():
        raise Unreadable(len(lines) + 1)
    return page.told()


def _only_line(text, told):
    """Returns what the first line of a text shows, None if it shows nothing, if there is no other line."""
    if told is None:
        raise Unreadable(1)
    if "\n" in text:
        raise Unreadable(2)
    return told
