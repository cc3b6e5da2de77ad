"""Least lists of bounds that no numbers meet."""

from smallword.weighing import weighed


def least_places(bounds):
    """The places, rising, of bounds that no numbers meet, though some do without any one of them; or None."""
    kind, told = weighed(bounds)
    if kind == "numbers":
        return None
    # These weights come from one line of a table, whose heads' sums do not hang together: so without any one of these
    # bounds the sums of the others do not, and any values may be given to such.
    return [place for place, weight in told]
