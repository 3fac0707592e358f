"""Texts of rows and rules (point 14)."""

from dealclashes.checks import CHOICES, PEOPLE, check_row, check_rule, check_text
from dealclashes.errors import InvalidText

FIGURES = "012345"


def write_figures(numbers):
    """Return the figures of the numbers."""
    return "".join([str(number) for number in numbers])


def is_ranking_text(text, people):
    """Return whether the text is the figures of all things, each once."""
    return sorted(text) == list(FIGURES[:people])


def read_figures(text):
    """Return the tuple of the numbers whose figures these are."""
    return tuple([FIGURES.index(figure) for figure in text])


def write_row(row):
    """Return the text of the row."""
    check_row(row)
    return " ".join([write_figures(ranking) for ranking in row])


def read_row(text):
    """Return the row of the text."""
    check_text(text)
    parts = text.split(" ")
    if len(parts) not in PEOPLE or not all([is_ranking_text(part, len(parts)) for part in parts]):
        raise InvalidText("the text of a row is its rankings, one space between")
    return tuple([read_figures(part) for part in parts])


def write_rule(rule):
    """Return the text of the rule."""
    check_rule(rule)
    return write_figures(rule)


def read_rule(text):
    """Return the rule of the text."""
    check_text(text)
    if len(text) not in CHOICES:
        raise InvalidText("the text of a rule is 4 or 216 figures")
    figures = FIGURES[:CHOICES[len(text)]]
    if not all([figure in figures for figure in text]):
        raise InvalidText("the figures of a rule are numbers of dealings")
    return read_figures(text)
