"""A desk that keeps a row and answers lines of text (point 15)."""

from dealclashes.checks import check_people, check_text
from dealclashes.errors import InvalidText, NothingToUndo
from dealclashes.rows import better, replaced
from dealclashes.rules import dealt, lies, names, told_rule
from dealclashes.texts import is_ranking_text, read_figures, write_figures, write_row


class Desk:
    """A row, at first with ascending rankings, and the rows that it was before."""

    def __init__(self, people):
        check_people(people)
        self._row = (tuple(range(people)),) * people
        self._before = []

    @property
    def row(self):
        """Return the row."""
        return self._row

    def run(self, line):
        """Carry out a line: return its text, or None if it gives a person a ranking."""
        check_text(line)
        words = line.split(" ")
        if is_change(words, len(self._row)):
            ranking = read_figures(words[1])
            self._before.append(self._row)
            self._row = replaced(self._row, int(words[0]), ranking)
            return None
        return answer(self._row, words)

    def undo(self):
        """Take back the last line that gave a person a ranking."""
        if self._before == []:
            raise NothingToUndo("there is no line to take back")
        self._row = self._before.pop()


def is_person_text(word, people):
    """Return whether the word is the figure of a person."""
    return word in [str(person) for person in range(people)]


def is_change(words, people):
    """Return whether the words are a person and a ranking."""
    return len(words) == 2 and is_person_text(words[0], people) and is_ranking_text(words[1], people)


def answer(row, words):
    """Return the text that the words ask for."""
    if words == ["row"]:
        return write_row(row)
    if len(words) == 1 and words[0] in names():
        return write_figures(dealing_by(words[0], row))
    if len(words) == 2 and words[0] == "better" and words[1] in names():
        return write_all(better(row, dealing_by(words[1], row)))
    if len(words) == 3 and words[0] == "lies" and words[1] in names() and is_person_text(words[2], len(row)):
        return write_all(lies(told_rule(words[1], len(row)), row, int(words[2])))
    raise InvalidText("no such line")


def dealing_by(name, row):
    """Return the dealing that the told rule of this name deals at the row."""
    return dealt(told_rule(name, len(row)), row)


def write_all(found):
    """Return the texts of the dealings or rankings, one space between, "none" if there is none."""
    return " ".join([write_figures(things) for things in found]) if found else "none"
