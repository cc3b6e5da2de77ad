"""Benches: wishes put at levels, taken back, and asked."""

from smallword.deciding import decided
from smallword.errors import NoLevel, NoWish
from smallword.least import least_reason
from smallword.wishes import is_wish


class Bench:
    """Wishes in their order, and how many there were as each level was pushed."""

    def __init__(self):
        self.kept = []
        self.counts = []

    def put(self, wish):
        """The number of a wish that is put behind the others; NoWish of anything else."""
        if not is_wish(wish):
            raise NoWish("this is no wish")
        self.kept.append(wish)
        return len(self.kept) - 1

    def push(self):
        """The level, one more than before."""
        self.counts.append(len(self.kept))
        return len(self.counts)

    def pop(self):
        """The level, one less than before, the wishes put at that one taken back; NoLevel at level 0."""
        if not self.counts:
            raise NoLevel("no level was pushed")
        count = self.counts.pop()
        del self.kept[count:]
        return len(self.counts)

    def level(self):
        return len(self.counts)

    def wishes(self):
        return list(self.kept)

    def ask(self):
        """The wishes decided."""
        return decided(self.kept)

    def reason(self):
        """A least reason of the wishes, or None."""
        return least_reason(self.kept)
