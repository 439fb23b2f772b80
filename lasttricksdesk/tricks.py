"""What holds of cards, seats and tricks, whoever has which hand."""


def suit_of(card):
    """The suit of the card, 0 to 3."""
    return card // 13


def top_of(suit):
    """The highest card of the suit."""
    return 13 * suit + 12


def side_of(seat):
    """The side of the seat, 0 or 1."""
    return seat % 2


def seat_behind(seat, steps):
    """The seat that sits so many steps behind this one."""
    return (seat + steps) % 4


def playable(hand, trick):
    """The cards of the hand that may be played to the trick, in the hand's order."""
    if len(trick) == 0:
        return list(hand)
    led = suit_of(trick[0])
    following = [card for card in hand if suit_of(card) == led]
    if len(following) == 0:
        return list(hand)
    return following


def beats(card, best, trump):
    """Whether the card takes the trick over from the best of the cards ahead of it."""
    if suit_of(card) == suit_of(best):
        return card > best
    return suit_of(card) == trump


def winning_place(trick, trump):
    """The place within the trick, from 0, of the card that wins it."""
    winning = 0
    for place in range(1, len(trick)):
        if beats(trick[place], trick[winning], trump):
            winning = place
    return winning
