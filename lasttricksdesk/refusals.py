"""The refusals: each is an answer of one number below 0 alone."""


def out_of_range():
    """A number is not in its range, or a row has too many numbers."""
    return [-1]


def hands_not_right():
    """The hands are of unlike length, or a card stands twice."""
    return [-2]


def no_cards():
    """There is no card to play, or none to take back."""
    return [-3]


def card_not_there():
    """The card is not in the hand on turn, or, where any hand would do, in none."""
    return [-4]


def must_follow():
    """The suit of the trick's first card must be followed."""
    return [-5]


def may_not_be_played():
    """One of the cards may not be played when it is its turn."""
    return [-6]


def not_for_a_table():
    """Too many cards are left, or a trick is begun."""
    return [-7]
