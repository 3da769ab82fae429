"""All refusals of the package, each straight beneath WishError."""


class WishError(ValueError):
    """Any refusal."""


class NoNames(WishError):
    """The count of names is no number from 0 to 8."""


class NoClash(WishError):
    """A setting keeps all the rules."""


class NoPeace(WishError):
    """The musts clash."""


class NotPlain(WishError):
    """A must or a wish is of another rule than an either-or."""


class NoWish(WishError):
    """There is no wish with this id."""


class NothingDone(WishError):
    """There is no deed to take back."""


class NoRow(WishError):
    """The desk knows no such row."""


class NoBook(WishError):
    """The desk has no book yet."""


class NoName(WishError):
    """The book has no such name, or not in this place."""


class BadRule(WishError):
    """What stands at a place is no rule there; -1 for the whole row."""

    def __init__(self, at):
        super().__init__(f"no rule at {at}")
        self.at = at


class BadMust(WishError):
    """What stands at a place is no must there; -1 for the whole row."""

    def __init__(self, at):
        super().__init__(f"no must at {at}")
        self.at = at


class BadWish(WishError):
    """What stands at a place is no wish there; -1 for the whole row."""

    def __init__(self, at):
        super().__init__(f"no wish at {at}")
        self.at = at


class NoDue(WishError):
    """The set of a step cannot be turned."""

    def __init__(self, at):
        super().__init__(f"no set to turn at {at}")
        self.at = at


class NoPour(WishError):
    """The two of a step cannot be poured."""

    def __init__(self, at):
        super().__init__(f"nothing to pour at {at}")
        self.at = at


class NoText(WishError):
    """A row of a text is none in its place."""

    def __init__(self, at):
        super().__init__(f"no such row at {at}")
        self.at = at
