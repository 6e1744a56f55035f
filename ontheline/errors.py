"""The refusals: each stands straight under FolkError, so none is caught as another one."""


class FolkError(ValueError):
    """Any refusal."""


class NoRanking(FolkError):
    """What was handed in is no ranking."""


class NoFolk(FolkError):
    """What was handed in is no folk."""


class NoNames(FolkError):
    """These aren't the names that are asked for."""


class NoFit(FolkError):
    """Things that were handed in don't fit one another."""


class NoLine(FolkError):
    """What was handed in is no line."""


class NoNumber(FolkError):
    """The number is none of those that are asked for."""


class NoTree(FolkError):
    """What was handed in is no tree of the names."""


class NoPaper(FolkError):
    """What was handed in has the form of no paper."""


class NoText(FolkError):
    """The text writes nothing: it keeps in at `at`."""

    def __init__(self, at):
        super().__init__(f"the text keeps in at {at}")
        self.at = at


class NoTitle(FolkError):
    """The title is none, or not one that can be taken here."""


class NoRow(FolkError):
    """The row is none that the desk knows."""


class NoBack(FolkError):
    """There is no deed to be taken back."""


class TooGreat(FolkError):
    """There would be more than there may be."""


class NoWeights(FolkError):
    """What was handed in are no weights of the folk."""


class NoFall(FolkError):
    """The ranking of the hand `hand` doesn't fall on the line."""

    def __init__(self, hand):
        super().__init__(f"the ranking of hand {hand} doesn't fall on the line")
        self.hand = hand


class NoTops(FolkError):
    """What was handed in are no tops."""


class NoFixed(FolkError):
    """What was handed in are no fixed names."""


class NoHand(FolkError):
    """There can't be so many hands."""


class NoRule(FolkError):
    """What was handed in is no rule."""
