"""The refusals of the whole program."""


class CrateError(ValueError):
    """Any refusal."""


class Cut(CrateError):
    """The bytes end ahead of what was asked for."""


class BadForm(CrateError):
    """Bytes that have not the form that they must have."""


class BadPath(CrateError):
    """A text that is, or leads to, no path."""


class LeadsOut(CrateError):
    """A way that leads out above the top."""


class NoEntry(CrateError):
    """Nothing stands at a path."""


class NotFolder(CrateError):
    """What stands at a path is no folder."""


class Clash(CrateError):
    """Two entries that can not stand together in one tree."""


class TooFar(CrateError):
    """A way over too many links."""


class BadCrate(CrateError):
    """Bytes that are no crate."""


class BadVolume(CrateError):
    """Bytes that are no volume."""


class NotTogether(CrateError):
    """Volumes that do not belong to one another."""


class Missing(CrateError):
    """Too many volumes lack; numbers is a rising tuple of theirs."""

    def __init__(self, numbers):
        CrateError.__init__(self, f"volumes lack: {numbers}")
        self.numbers = numbers


class NothingBack(CrateError):
    """No deed is there to be taken back or done again."""
