"""The whole: from the text of a plan to the text of the picture that it lays."""

from glowrow.laying import laid
from glowrow.texts import picture_text, read_plan


def picture_of(text):
    """Tell the text of the picture laid of the plan that a text writes, or refuse with NoText."""
    frame, stand, timed = read_plan(text)
    return picture_text(laid(frame, stand, timed).picture())
