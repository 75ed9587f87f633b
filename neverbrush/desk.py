"""The desk: a city worked by lines of text."""

from neverbrush.errors import BadText, NothingDone
from neverbrush.fits import fit_plan, is_crossing
from neverbrush.flows import bag_of
from neverbrush.forms import counts_of, standing
from neverbrush.fulls import finished_from, hooks_of
from neverbrush.rows import Rows
from neverbrush.signs import word_of

FIGURES = "0123456789"
MOST_FIGURES = 6
LONE_WORDS = ("go", "where", "counts", "seams", "bag")
NUMBER_WORDS = ("swap", "rise", "sink", "road")
DONE = "done"


def number_told(word):
    """The number of a word of 1 to 6 figures without a needless 0 ahead, None for another word."""
    if not word or len(word) > MOST_FIGURES or any([sign not in FIGURES for sign in word]):
        return None
    return int(word) if word == "0" or not word.startswith("0") else None


def signed_told(word):
    """The number of such a word, or of a - and such a one that is not 0; None for another word."""
    if not word.startswith("-"):
        return number_told(word)
    number = number_told(word[1:])
    return -number if number else None


def line_told(line):
    """The tuple of the first word of a line and the numbers behind it; None if it is no line of the table."""
    words = line.split(" ")
    if len(words) == 1 and words[0] in LONE_WORDS:
        return (words[0],)
    if len(words) == 2 and words[0] in NUMBER_WORDS:
        number = number_told(words[1])
        return None if number is None else (words[0], number)
    if len(words) == 3 and words[0] == "put":
        numbers = (number_told(words[1]), signed_told(words[2]))
        return None if None in numbers else ("put",) + numbers
    return None


def lines_told(text):
    """The list of what the lines of text tell; BadText(line) for the first one that is none of the table."""
    told = [line_told(line) for line in text.split("\n")]
    for line, own in enumerate(told):
        if own is None:
            raise BadText(line)
    return told


class Desk:
    """A CITY with a FULL LOT and a TABLE, worked by lines of text.

    A state is the pair of the LOT and the TABLE. ahead are those ahead of the says that can be taken back, the
    last one at the end; behind are those behind the says that can be done once more, the next one at the end.
    """

    def __init__(self, city):
        self.plan = fit_plan(city)
        self.state = (hooks_of(self.plan, "S"), (0,) * self.plan.size)
        self.ahead = []
        self.behind = []

    def __eq__(self, other):
        """Whether CITY, LOT and TABLE are equal."""
        return isinstance(other, Desk) and self.plan.streets == other.plan.streets and self.state == other.state

    def city(self):
        """The CITY."""
        return self.plan.streets

    def lot(self):
        """The LOT now."""
        return self.state[0]

    def table(self):
        """The TABLE now."""
        return self.state[1]

    def say(self, text):
        """Does what the lines of text tell, and returns the tuple of the answers; BadText(line) ahead of all."""
        steps, held, answers = lines_told(text), self.state, []
        for step in steps:
            answers.append(self.answer_to(step))
        if DONE in answers:
            self.ahead.append(held)
            self.behind = []
        return tuple(answers)

    def undo(self):
        """Takes back the last say that did something; returns how many can be taken back then."""
        if not self.ahead:
            raise NothingDone()
        self.behind.append(self.state)
        self.state = self.ahead.pop()
        return len(self.ahead)

    def redo(self):
        """Does the last say that was taken back once more; returns how many can be taken back then."""
        if not self.behind:
            raise NothingDone()
        self.ahead.append(self.state)
        self.state = self.behind.pop()
        return len(self.ahead)

    def twin(self):
        """Another Desk like it, with all that can be taken back and done once more."""
        other = Desk(self.plan.streets)
        other.state = self.state
        other.ahead = list(self.ahead)
        other.behind = list(self.behind)
        return other

    def answer_to(self, step):
        """Does what a line tells, its first word and the numbers behind it; returns the answer."""
        word = step[0]
        if word == "put":
            return self.put_number(step[1], step[2])
        if word == "go":
            return self.done(finished_from(self.plan, self.state[1], 1))
        if word == "bag":
            return word_of(sum([many for _, many in bag_of(self.plan, self.state[1])]))
        rows = Rows(self.plan, self.state[0])
        if word == "swap":
            return self.done(rows.exchanged(step[1])) if step[1] < self.plan.size else "no road"
        if word == "rise":
            return self.led(rows, 1, step[1])
        if word == "sink":
            return self.led(rows, -1, step[1])
        if word == "road":
            return road_told(rows.lot, step[1])
        if word == "seams":
            return word_of(len(rows.stretches_by(-1)))
        counts = counts_of(rows, self.state[1])
        return standing(counts) if word == "where" else " ".join([word_of(count) for count in counts])

    def done(self, lot):
        """Takes lot for the LOT."""
        self.state = (lot, self.state[1])
        return DONE

    def put_number(self, crossing, number):
        """Puts number at crossing in the TABLE."""
        if not is_crossing(self.plan, crossing):
            return "no crossing"
        lot, table = self.state
        self.state = (lot, table[:crossing] + (number,) + table[crossing + 1:])
        return DONE

    def led(self, rows, sign, place):
        """Leads the LOT up by the one at place of its RISES (sign 1), down by that of its SEAMS (sign -1)."""
        stretches = rows.stretches_by(sign)
        if place >= len(stretches):
            return "no rise" if sign == 1 else "no seam"
        return self.done(rows.exchanged(rows.forms.index((stretches[place], sign))))


def road_told(lot, place):
    """The ROAD at place of lot in words."""
    if place >= len(lot):
        return "no road"
    side, first, moves = lot[place]
    return " ".join([side, word_of(first), moves])
