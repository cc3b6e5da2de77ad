"""Fractions as texts, written in just one way each."""

from smallword.fractions import fraction

# Python refuses to turn numbers of some thousands of figures into texts or back at once,
# so longer ones go piece by piece.
PIECE = 64
PIECE_WORTH = 10 ** 64


def figures_of(number):
    """The figures of a whole number from 0 on."""
    pieces = []
    while number >= PIECE_WORTH:
        pieces.append(str(number % PIECE_WORTH).zfill(PIECE))
        number = number // PIECE_WORTH
    return str(number) + "".join(reversed(pieces))


def are_figures(text):
    """Whether a text is one figure or more and nothing else."""
    return text.isascii() and text.isdigit()


def number_of(figures):
    """The whole number that figures write, zeros ahead or not."""
    ahead = len(figures) % PIECE
    number = int("0" + figures[:ahead])
    for at in range(ahead, len(figures), PIECE):
        number = number * PIECE_WORTH + int(figures[at:at + PIECE])
    return number


def fraction_text(one):
    top, bottom = one
    sign = "-" if top < 0 else ""
    share = "" if bottom == 1 else "/" + figures_of(bottom)
    return sign + figures_of(abs(top)) + share


def fraction_in(text):
    """The fraction that a text writes just as fraction_text does, else None."""
    top, slash, bottom = text.removeprefix("-").partition("/")
    if slash == "":
        bottom = "1"
    if not are_figures(top) or not are_figures(bottom) or number_of(bottom) == 0:
        return None
    sign = -1 if text.startswith("-") else 1
    found = fraction(sign * number_of(top), number_of(bottom))
    return found if fraction_text(found) == text else None
