"""The refusals of this program: each has its own class, right under WishError."""


class WishError(ValueError):
    """Any refusal."""

    def __init__(self, words):
        ValueError.__init__(self, words)


class NoShare(WishError):
    """A bottom of 0, or a parting by 0."""


class NoText(WishError):
    """A text that does not write what it should; at tells where this shows first."""

    def __init__(self, at):
        WishError.__init__(self, f"number {at} can not stand there")
        self.at = at


class NoStep(WishError):
    """No step, or one that is not right."""


class BadStep(WishError):
    """A paper with a step that is none or not right; place is its number."""

    def __init__(self, place):
        WishError.__init__(self, f"step {place} is not right")
        self.place = place


class NoPaper(WishError):
    """Lines that write no paper; place is the number of the first wrong one."""

    def __init__(self, place):
        WishError.__init__(self, f"line {place} writes no step")
        self.place = place


class NoLevel(WishError):
    """A level taken back where none was pushed."""


class NoWish(WishError):
    """A thing that is no wish."""


class NoAnswer(WishError):
    """A question that has no answer as things stand."""


class NoLine(WishError):
    """A row that asks nothing that is known."""
