"""Bounds as tables of whole numbers, turned until they show what can be met and how high a sum may go."""

from smallword.fractions import common_divisor, fraction
from smallword.showing import shown_term


class Table:
    """Bounds on sums of terms, with their slacks: what each leaves free, from 0 on where it is met.

    All of these have numbers: the slacks those of their bounds, then come the terms, last a sum that is asked for. Some
    are heads of columns, and count as 0; each other one stands at the side of a line that tells it by the heads: how
    often it has each of them, then a plain number, then how many of a number above 0 that is as small as one likes (a
    strict bound leaves one of these less free). A line's numbers are whole: they are to be parted by the bottom, and
    each bound is taken so many times as its scale tells.
    """

    def __init__(self, terms, scales, lines):
        self.terms = terms
        self.scales = scales
        self.lines = lines
        self.bottom = 1
        self.sides = list(range(len(scales)))
        self.heads = list(range(len(scales), len(scales) + len(terms)))


def table_of(bounds, sums):
    """The table of bounds over their terms and those of some sums, each term at a side on which a slack hangs."""
    terms = terms_of([bound[0] for bound in bounds] + list(sums))
    scales = [scale_of(shares_in(pairs) + [bound]) for pairs, bound, strict in bounds]
    lines = []
    for (pairs, bound, strict), scale in zip(bounds, scales):
        counts = counts_of(pairs, terms, scale)
        lines.append([-count for count in counts] + [whole_of(bound, scale), -1 if strict else 0])
    table = Table(terms, scales, lines)
    settle(table)
    return table


def settle(table):
    """Give each term on which a slack hangs a line: terms have no bounds, so they need not be turned again."""
    for column in range(len(table.terms)):
        hanging = [at for at in slack_lines(table) if table.lines[at][column] != 0]
        if hanging:
            turn(table, hanging[0], column)


def terms_of(sums):
    """The terms of sums, sorted, each once."""
    found = {}
    for pairs in sums:
        for term, share in pairs:
            found.setdefault(shown_term(term), term)
    return sorted(found.values())


def shares_in(pairs):
    return [share for term, share in pairs]


def scale_of(shares):
    """The least whole number by which all fractions become whole."""
    scale = 1
    for top, bottom in shares:
        scale = scale // common_divisor(scale, bottom) * bottom
    return scale


def whole_of(share, scale):
    return share[0] * (scale // share[1])


def counts_of(pairs, terms, scale):
    """How often each of the terms stands in a sum that is scaled."""
    counts = {shown_term(term): whole_of(share, scale) for term, share in pairs}
    return [counts.get(shown_term(term), 0) for term in terms]


def is_slack(table, number):
    return number < len(table.scales)


def slack_lines(table):
    """The places of the lines that tell slacks."""
    return [at for at, side in enumerate(table.sides) if is_slack(table, side)]


def turn(table, at, column):
    """Let the side of a line and the head of a column, which is not 0 there, change places."""
    line = table.lines[at]
    # The bottom stays above 0, so the line is taken with the sign with which it has the head.
    sign = 1 if line[column] > 0 else -1
    bottom = table.bottom
    table.bottom = abs(line[column])
    table.lines = [turned(table, other, line, column, bottom) for other in table.lines]
    table.lines[at] = [-sign * number for number in line]
    table.lines[at][column] = sign * bottom
    table.sides[at], table.heads[column] = table.heads[column], table.sides[at]


def turned(table, other, line, column, bottom):
    """A line once the head of a column is put in by what another line, with the old bottom, tells of it."""
    many = other[column] if line[column] > 0 else -other[column]
    # All numbers here are determinants of what the table was at first, so no division leaves a rest.
    if many == 0:
        return [number * table.bottom // bottom for number in other]
    told = [(number * table.bottom - many * beside) // bottom for number, beside in zip(other, line)]
    told[column] = many
    return told


def least_by(numbers, places):
    """Of some places the one with the least number, or None of no places."""
    return min(places, key=lambda place: numbers[place], default=None)


def refuted(table):
    """Turn until all slacks are from 0 on: None, or weights that bear a no where this can not be."""
    while True:
        # That the least numbers are taken keeps the turns from going round in a circle.
        below = [at for at in slack_lines(table) if table.lines[at][-2:] < [0, 0]]
        at = least_by(table.sides, below)
        if at is None:
            return None
        line = table.lines[at]
        column = least_by(table.heads, [column for column in range(len(table.heads)) if line[column] > 0])
        if column is None:
            return weights_against(table, at)
        turn(table, at, column)


def weights_against(table, at):
    """The weights of a line that is below 0 and has no head more often than 0 times."""
    counts = [(table.sides[at], table.bottom)] + head_counts(table, table.lines[at])
    shared = 0
    for place, count in counts:
        shared = common_divisor(shared, count * table.scales[place])
    return weights_by(table, counts, shared)


def head_counts(table, line):
    """The heads that a line has, with how often each is to be added so that it has them no longer."""
    return [(head, -count) for head, count in zip(table.heads, line) if count != 0]


def weights_by(table, counts, bottom):
    """Weights of bounds by how often their scaled slacks are taken, parted by a bottom."""
    return sorted([(place, fraction(count * table.scales[place], bottom)) for place, count in counts])


def put_sum(table, pairs):
    """Lay a line for a sum behind the others; its scale."""
    scale = scale_of(shares_in(pairs))
    line = [0] * (len(table.heads) + 2)
    for number, count in enumerate(counts_of(pairs, table.terms, scale), start=len(table.scales)):
        if count != 0:
            line = [one + count * other for one, other in zip(line, line_of(table, number))]
    table.lines.append(line)
    table.sides.append(len(table.scales) + len(table.terms))
    return scale


def line_of(table, number):
    """The line that tells what has this number, also where that is a head."""
    if number in table.sides:
        return table.lines[table.sides.index(number)]
    return [table.bottom if head == number else 0 for head in table.heads] + [0, 0]


def take_sum(table):
    """Take back the line that was laid last."""
    table.lines.pop()
    table.sides.pop()


def raised(table, enough):
    """Turn until the last line is as high as may be, or, where that is enough, above 0.

    Told is the column of a head by which it rises for ever, else None. All slacks are from 0 on, and stay so.
    """
    while not enough or table.lines[-1][-2] <= 0:
        column = rising_column(table)
        if column is None:
            return None
        at = tightest(table, column)
        if at is None:
            return column
        turn(table, at, column)
    return None


def rising_column(table):
    """The column of the least head by which the last line rises, or None. A term may go down too."""
    line = table.lines[-1]
    rising = [column for column, head in enumerate(table.heads)
              if line[column] > 0 or (line[column] < 0 and not is_slack(table, head))]
    return least_by(table.heads, rising)


def tightest(table, column):
    """The place of the slack that is the first to come down to 0 as a column's head rises, or None."""
    found = None
    for at in slack_lines(table):
        if table.lines[at][column] < 0 and (found is None or is_tighter(table, at, found, column)):
            found = at
    return found


def is_tighter(table, at, other, column):
    line, beside = table.lines[at], table.lines[other]
    nearer = [number * -beside[column] for number in line[-2:]]
    farther = [number * -line[column] for number in beside[-2:]]
    return (nearer, table.sides[at]) < (farther, table.sides[other])


def strict_point(table):
    """Tops and a bottom of numbers that meet all bounds, where the slacks are from 0 on."""
    # The smallest number becomes one part of so many that no slack comes below 0.
    parts = max([1] + [-(table.lines[at][-1] // table.lines[at][-2])
                       for at in slack_lines(table) if table.lines[at][-2] > 0])
    lines = term_lines(table)
    return ([line[-2] * parts + line[-1] for line in lines], table.bottom * parts)


def closed_point(table):
    """Tops and a bottom of numbers that meet all bounds with all taken as not strict."""
    return ([line[-2] for line in term_lines(table)], table.bottom)


def way_of(table, column):
    """Tops and a bottom of a way on which the last line rises by the head of a column, up or down."""
    sign = 1 if table.lines[-1][column] > 0 else -1
    return ([sign * line[column] for line in term_lines(table)], table.bottom)


def term_lines(table):
    return [line_of(table, len(table.scales) + number) for number in range(len(table.terms))]


def numbers_at(table, point):
    """Numbers of tops and a bottom."""
    tops, bottom = point
    return {term: fraction(top, bottom) for term, top in zip(table.terms, tops)}
