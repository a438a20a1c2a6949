"""What something is now, and what it was ahead of each deed that can be taken back."""


class History:
    """What is told now and what was told earlier; `past` is a tuple that is only ever replaced as a whole."""

    def __init__(self, now):
        self.now = now
        self.past = ()

    def become(self, now):
        """Be something else, or the same once more, by a deed that can be taken back."""
        self.past = (*self.past, self.now)
        self.now = now

    def undo(self):
        """Take the last deed back, and tell whether there was one."""
        if len(self.past) == 0:
            return False
        self.now = self.past[-1]
        self.past = self.past[:-1]
        return True
