"""The refusals: each is an answer of one number below 0 alone."""


def out_of_range():
    """A number is not in its range, or a row has too many numbers."""
    return [-1]


def hands_not_right():
    """The hands are of unlike length, or a card stands twice."""
    return [-2]


def no_cards():
    """There is no card to play, or none to take back."""
    return [-3]


def card_not_there():
    """The card is not in the hand that it is asked of."""
    return [-4]


def must_follow():
    """The suit of the trick's first card must be followed."""
    return [-5]
