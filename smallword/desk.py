"""A desk: it is told rows of text, and answers each with a text."""

from smallword.benches import Bench
from smallword.checker import lets_by
from smallword.errors import NoAnswer, NoLine
from smallword.papertexts import read_paper, shown_paper
from smallword.reading import read_wish
from smallword.showing import shown_wish
from smallword.worldlines import read_world, world_lines
from smallword.worlds import holds

PUT = "put "


def pushed(bench):
    return str(bench.push())


def popped(bench):
    return str(bench.pop())


def listed(bench):
    return "\n".join([shown_wish(wish) for wish in bench.wishes()])


def asked(bench):
    return bench.ask()[0]


def answer_of(bench, kind):
    """The world or the paper that goes with an answer, NoAnswer where the other one is due."""
    due, told = bench.ask()
    if due != kind:
        raise NoAnswer("the answer is the other one")
    return told


def told_world(bench):
    return "\n".join(world_lines(answer_of(bench, "yes")))


def told_paper(bench):
    return "\n".join(shown_paper(answer_of(bench, "no")))


def told_reason(bench):
    numbers = bench.reason()
    if numbers is None:
        raise NoAnswer("a world keeps the wishes")
    return numbers_text(numbers)


def numbers_text(numbers):
    return " ".join([str(number) for number in numbers])


def checked(bench, lines):
    return "lets by" if lets_by(bench.wishes(), read_paper(lines)) else "not"


def not_kept(bench, lines):
    """The numbers of the wishes that do not hold in the world of lines."""
    world = read_world(lines)
    return numbers_text([number for number, wish in enumerate(bench.wishes()) if not holds(wish, world)])


DEEDS = {
    "push": pushed, "pop": popped, "list": listed, "ask": asked, "world": told_world, "paper": told_paper,
    "reason": told_reason,
}
LINE_DEEDS = {"check": checked, "keeps": not_kept}


class Desk:
    """A bench that is told rows."""

    def __init__(self):
        self.bench = Bench()

    def say(self, row):
        """The answer to a row; NoLine of what is none, else as what it asks refuses."""
        if row.startswith(PUT) and "\n" not in row:
            return str(self.bench.put(read_wish(row[len(PUT):])))
        if row in DEEDS:
            deed = DEEDS[row]
            return deed(self.bench)
        word, end, rest = row.partition("\n")
        if end == "" or word not in LINE_DEEDS:
            raise NoLine("this row asks nothing")
        line_deed = LINE_DEEDS[word]
        return line_deed(self.bench, rest.split("\n") if rest else [])
