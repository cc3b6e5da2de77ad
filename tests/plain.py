"""What several tests share: plain things, and ways to spoil them."""

A, B, C = ("name", "a"), ("name", "b"), ("name", "c")
ONE, HALF, ZERO = (1, 1), (1, 2), (0, 1)

NO_TUPLES = [
    0, 1, -3, 10 ** 70, True, False, None, "", "a", "name", "flag", [], ["name", "a"], ["flag", "p"], [ONE],
    {}, {"name": "a"}, {"flag": "p"}, [[], [], []],
]


def call(function, *terms):
    return ("call", function, terms)


def spoilt(thing):
    """Things that differ from a plain thing by one part, at the top or deep within."""
    if isinstance(thing, tuple):
        yield list(thing)
        yield thing + (None,)
        yield thing + thing[-1:] + thing[-1:] + thing[-1:]
        yield (thing,)
        for at, part in enumerate(thing):
            for other in spoilt(part):
                yield thing[:at] + (other,) + thing[at + 1:]
    elif isinstance(thing, str):
        yield from ("", thing.upper(), thing + "1", thing + "abcdefgh", thing + " ", 5, None, (thing,), [thing])
    else:
        yield from (True, False, None, str(thing), (thing,), [thing])
