"""The errors of the program, each straight under GongError."""


class GongError(ValueError):
    """Something that was handed in is refused."""


class BadGame(GongError):
    """No game. at: the first place whose row is none, or None."""

    def __init__(self, at):
        super().__init__(f"no game (at: {at})")
        self.at = at


class BadSteps(GongError):
    """No steps for this game. at: the first place whose step is wrong, or None."""

    def __init__(self, at):
        super().__init__(f"no steps for this game (at: {at})")
        self.at = at


class BadPlayer(GongError):
    """No player."""


class BadPlace(GongError):
    """No place of the game, or no list of such places."""


class TooMany(GongError):
    """More places than the question is answered for."""
