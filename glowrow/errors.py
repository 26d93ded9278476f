"""The refusals: one class for each, all under GlowError."""


class GlowError(ValueError):
    """Any refusal."""


class NoFrame(GlowError):
    """What was handed in is no frame."""


class NoStand(GlowError):
    """What was handed in is no stand."""


class NoTick(GlowError):
    """The frame doesn't have that tick, or it comes too early in a list."""


class NoDeed(GlowError):
    """What was handed in is no deed of the stand."""


class Over(GlowError):
    """Nothing is left to go on with, or to take back."""


class Clash(GlowError):
    """Two wishes ask for unlike hues of one ink on one row."""


class NoText(GlowError):
    """What was handed in is no text of the asked form."""


class NoScore(GlowError):
    """What was handed in is no score of the stand."""


class NoFilm(GlowError):
    """What was handed in is no film."""


class NoRow(GlowError):
    """What a desk was told is none of its rows."""
