"""Truths that meet rows, or steps that show that none do."""

from smallword.learning import things_in
from smallword.seeking import Search, put_row, resolves_of, sought
from smallword.showing import shown_wish


def searched(rows):
    """("truths", dict) of the things in the rows that meet all rows, or ("steps", steps) to the row of no literals."""
    if () in rows:
        return ("steps", [])
    found = things_in(rows)
    numbers = {text: number for number, text in enumerate(found)}
    things = list(found.values())
    search = Search(len(things))
    places = {}
    for place, row in enumerate(rows):
        places[put_row(search, numbers_of(row, numbers))] = place
    if not sought(search):
        return ("steps", resolves_of(search, things, places, len(rows)))
    return ("truths", {thing: search.standing[2 * number] > 0 for number, thing in enumerate(things)})


def numbers_of(row, numbers):
    """A row's literals as the search knows them."""
    return [2 * numbers[shown_wish(thing)] + (0 if truth else 1) for thing, truth in row]
