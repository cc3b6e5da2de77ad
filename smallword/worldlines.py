"""Worlds written as lines, and read."""

from smallword.errors import NoText
from smallword.fractions import ZERO
from smallword.fractiontexts import fraction_in, fraction_text
from smallword.terms import MOST_IN_CALL, is_name


def world_lines(world):
    """The lines of a world: what is False or 0 is left out."""
    flags, values, calls = world
    lines = ["flag " + name for name in sorted(flags) if flags[name]]
    lines.extend([f"name {name} {fraction_text(values[name])}" for name in sorted(values) if values[name] != ZERO])
    lines.extend([call_line(key, calls[key]) for key in sorted(calls) if calls[key] != ZERO])
    return lines


def call_line(key, value):
    function, handed = key
    return " ".join(["call", function] + [fraction_text(one) for one in handed] + ["=", fraction_text(value)])


def read_world(lines):
    """The world of lines in any order; NoText at the first that is not as told, or tells again what another did."""
    world = ({}, {}, {})
    for number, line in enumerate(lines):
        entry = entry_in(line.split(" "))
        if entry is None or entry[1] in world[entry[0]]:
            raise NoText(number)
        place, key, value = entry
        world[place][key] = value
    return world


def entry_in(words):
    """Which of a world's dicts gets what by which key, as the words of a line tell it, or None."""
    if len(words) < 2 or not is_name(words[1]):
        return None
    if words[0] == "flag" and len(words) == 2:
        return (0, words[1], True)
    handed = []
    if words[0] == "call" and 5 <= len(words) <= 4 + MOST_IN_CALL and words[-2] == "=":
        handed = [fraction_in(word) for word in words[2:-2]]
    elif words[0] != "name" or len(words) != 3:
        return None
    value = fraction_in(words[-1])
    if value is None or None in handed:
        return None
    return (2, (words[1], tuple(handed)), value) if handed else (1, words[1], value)
