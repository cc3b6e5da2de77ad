"""A search for truths that meet rows of literals, which learns a row wherever it fails.

Literals are whole numbers here: two for each thing, that of its being True, even, and the one behind it.
"""

# How many failures there are between two fresh starts, at first.
FIRST_PATIENCE = 64
# Beyond this the scores of things are made smaller, so that reckoning with them stays quick.
HIGHEST_SCORE = 1000000000000000000


class Search:
    """Rows, the truths that are tried, and how each learnt row was made."""

    def __init__(self, count):
        self.rows = []
        # By learnt rows' numbers the row that each began with, then (row, literal) with which it was resolved.
        self.makings = {}
        # By literals the numbers of the rows that look whether it falls: each row looks at its first two.
        self.watchers = [[] for each in range(2 * count)]
        # By literals 1 where it is true, -1 where it is false, else 0.
        self.standing = [0] * (2 * count)
        # The literals that are true, in their order; which of them were tried, by their places; how many were spread.
        self.trail = []
        self.tries = []
        self.spread_count = 0
        # By things how many tries were made ahead of its truth, and which row forced it.
        self.depths = [0] * count
        self.causes = [None] * count
        # By literals that are true without any try the rows that have them alone.
        self.sure = {}
        self.scores = [0] * count
        self.gain = 1
        # By things which of its two literals was true the last time.
        self.leanings = [1] * count
        # How the row of no literals is made, once that is known.
        self.ending = None


def put_row(search, literals):
    """The number of a row that is put to the others, while nothing is tried."""
    number = len(search.rows)
    search.rows.append(literals)
    if search.ending is None and not any([literal ^ 1 in literals for literal in literals]):
        watch(search, number)
    return number


def watch(search, number):
    """Let a row look at two literals that are not false; force the one, or end, where there are no two."""
    row = search.rows[number]
    row[:] = sorted(row, key=lambda literal: search.standing[literal] < 0)
    free = [literal for literal in row if search.standing[literal] >= 0]
    if len(free) > 1:
        search.watchers[row[0]].append(number)
        search.watchers[row[1]].append(number)
    elif free and search.standing[free[0]] == 0:
        hold(search, free[0], number)
    elif not free:
        end(search, number)


def hold(search, literal, cause):
    """Let a literal be true, by the row that forces it, or None where it is tried."""
    search.standing[literal] = 1
    search.standing[literal ^ 1] = -1
    search.trail.append(literal)
    search.depths[literal >> 1] = len(search.tries)
    search.causes[literal >> 1] = cause


def go_back(search, depth):
    """Take back all truths but those behind which no more tries than these stand."""
    if len(search.tries) <= depth:
        return
    kept = search.tries[depth]
    for literal in search.trail[kept:]:
        search.standing[literal] = search.standing[literal ^ 1] = 0
        search.leanings[literal >> 1] = literal & 1
    del search.trail[kept:]
    del search.tries[depth:]
    search.spread_count = kept


def spread(search):
    """Hold all that rows force; the number of a row that fails, or None."""
    while search.spread_count < len(search.trail):
        fallen = search.trail[search.spread_count] ^ 1
        search.spread_count += 1
        failing = look_anew(search, fallen)
        if failing is not None:
            return failing
    return None


def look_anew(search, fallen):
    """Let rows that look at a fallen literal look at another, or force one; the number of one that fails, or None."""
    standing, rows = search.standing, search.rows
    waiting = search.watchers[fallen]
    kept = []
    search.watchers[fallen] = kept
    for at, number in enumerate(waiting):
        row = rows[number]
        if row[0] == fallen:
            row[0], row[1] = row[1], fallen
        first = row[0]
        if standing[first] > 0:
            kept.append(number)
            continue
        place = free_place(row, standing)
        if place > 0:
            row[1], row[place] = row[place], fallen
            search.watchers[row[1]].append(number)
            continue
        kept.append(number)
        if standing[first] < 0:
            kept.extend(waiting[at + 1:])
            return number
        hold(search, first, number)
    return None


def free_place(row, standing):
    """The place, from 2 on, of a literal in a row that is not false, or 0."""
    for place in range(2, len(row)):
        if standing[row[place]] >= 0:
            return place
    return 0


def make_sure(search):
    """Learn rows of the literals that are true without any try, each alone."""
    fresh = search.trail[len(search.sure):]
    for literal in fresh:
        cause = search.causes[literal >> 1]
        others = [other for other in search.rows[cause] if other != literal]
        if others:
            cause = keep_row(search, [literal], making_of(search, cause, others))
        search.sure[literal] = cause


def keep_row(search, literals, making):
    """The number of a row that is learnt."""
    number = len(search.rows)
    search.rows.append(literals)
    search.makings[number] = making
    return number


def end(search, failing):
    """Keep how a row whose literals are false without any try leads to the row of none."""
    make_sure(search)
    search.ending = making_of(search, failing, search.rows[failing])


def making_of(search, number, others):
    """How a row is rid of literals that are false without any try."""
    return [(number, None)] + [(search.sure[other ^ 1], other ^ 1) for other in others]


def sought(search):
    """Whether truths meet all rows: then they stand; else the search has its ending."""
    patience = left = FIRST_PATIENCE
    while search.ending is None:
        failing = spread(search)
        if failing is not None and not search.tries:
            end(search, failing)
        elif failing is not None:
            learn(search, failing)
            left -= 1
        elif left <= 0:
            # Begun anew, the search tries first what lately mattered most.
            go_back(search, 0)
            patience = left = patience * 3 // 2
        elif len(search.trail) == len(search.scores):
            return True
        else:
            make_try(search)
    return False


def make_try(search):
    """Hold a literal of the thing that mattered most of those that have no truth."""
    if not search.tries:
        make_sure(search)
    free = [thing for thing in range(len(search.scores)) if search.standing[2 * thing] == 0]
    thing = max(free, key=lambda number: search.scores[number])
    search.tries.append(len(search.trail))
    hold(search, 2 * thing + search.leanings[thing], None)


def learn(search, failing):
    """Learn a row of a failing one, go back to where it forces a literal, and hold that."""
    row = {literal: True for literal in search.rows[failing]}
    making = [(failing, None)]
    first = resolve_to_one(search, row, making)
    drop_implied(search, row, making, first)
    drop_sure(search, row, making)
    raise_scores(search, list(row) + [literal for number, literal in making[1:]])
    del row[first]
    others = sorted(row, key=lambda literal: -search.depths[literal >> 1])
    number = keep_row(search, [first] + others, making)
    go_back(search, search.depths[others[0] >> 1] if others else 0)
    if others:
        search.watchers[first].append(number)
        search.watchers[others[0]].append(number)
    hold(search, first, number)


def resolve_to_one(search, row, making):
    """Resolve a failing row until it has one literal that fell behind the last try: that one."""
    depth = len(search.tries)
    late = len([literal for literal in row if search.depths[literal >> 1] == depth])
    at = len(search.trail)
    while True:
        at -= 1
        literal = search.trail[at]
        if literal ^ 1 not in row:
            continue
        if late == 1:
            return literal ^ 1
        late -= 1
        cause = search.causes[literal >> 1]
        making.append((cause, literal))
        del row[literal ^ 1]
        for other in search.rows[cause]:
            if other != literal and other not in row:
                row[other] = True
                late += 1 if search.depths[other >> 1] == depth else 0


def drop_implied(search, row, making, first):
    """Resolve away each literal whose cause brings nothing new but what is false without any try."""
    for literal in reversed(search.trail):
        cause = search.causes[literal >> 1]
        if literal ^ 1 not in row or literal ^ 1 == first or cause is None:
            continue
        others = [other for other in search.rows[cause] if other != literal and other not in row]
        if search.depths[literal >> 1] > 0 and not any([search.depths[other >> 1] > 0 for other in others]):
            making.append((cause, literal))
            del row[literal ^ 1]
            row.update({other: True for other in others})


def drop_sure(search, row, making):
    """Resolve away the literals that are false without any try."""
    for literal in list(row):
        if search.depths[literal >> 1] == 0:
            making.append((search.sure[literal ^ 1], literal ^ 1))
            del row[literal]


def raise_scores(search, literals):
    for literal in literals:
        search.scores[literal >> 1] += search.gain
    search.gain += search.gain // 16 + 1
    if search.gain > HIGHEST_SCORE:
        search.scores = [score >> 40 for score in search.scores]
        search.gain = search.gain >> 40


def needed_rows(search):
    """The numbers, rising, of the learnt rows that the ending needs."""
    needed = {number: True for number, literal in search.ending}
    for number in sorted(search.makings, reverse=True):
        if number in needed:
            needed.update({used: True for used, literal in search.makings[number]})
    return sorted([number for number in needed if number in search.makings])


def resolves_of(search, things, places, count):
    """The steps that resolve to the row of no literals, behind so many others, the rows put being at these places."""
    places = dict(places)
    steps = []
    for number in needed_rows(search):
        places[number] = write_making(search.makings[number], things, places, steps, count)
    write_making(search.ending, things, places, steps, count)
    return steps


def write_making(making, things, places, steps, count):
    """The place of the last step of those that make a row."""
    place = places[making[0][0]]
    for number, literal in making[1:]:
        # The row that has the thing True comes first.
        one, other = (place, places[number]) if literal & 1 else (places[number], place)
        steps.append(("resolve", one, other, things[literal >> 1]))
        place = count + len(steps) - 1
    return place
