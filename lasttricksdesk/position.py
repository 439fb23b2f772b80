"""A position: the hands, the trump, the seat that leads, the begun trick."""

from lasttricksdesk.tricks import playable, seat_behind, winning_place


class Position:
    """Never changed once it is made: a card that is played makes another position.

    The hands are a tuple of four tuples, each in rising order, so that
    they can stand within the key of a dict.
    """

    def __init__(self, hands, trump, leader, trick):
        self.hands = hands
        self.trump = trump
        self.leader = leader
        self.trick = trick

    def on_turn(self):
        """The seat on turn."""
        return seat_behind(self.leader, len(self.trick))

    def hand_on_turn(self):
        """The hand of the seat on turn."""
        return self.hands[self.on_turn()]

    def choices(self):
        """The cards that may be played, in rising order."""
        return playable(self.hand_on_turn(), self.trick)

    def has_cards(self):
        """Whether any hand has a card."""
        return self.cards_left() > 0

    def cards_left(self):
        """How many cards all hands have."""
        return sum([len(hand) for hand in self.hands])

    def tricks_left(self):
        """How many tricks are not whole yet, a begun one counted."""
        return (self.cards_left() + len(self.trick)) // 4

    def seen(self):
        """All cards of the hands and of the begun trick."""
        cards = list(self.trick)
        for hand in self.hands:
            cards.extend(hand)
        return cards

    def hand_with(self, card):
        """The hand that has the card, or None."""
        for hand in self.hands:
            if card in hand:
                return hand
        return None

    def behind(self, card):
        """The position behind the card, played by the seat on turn."""
        hands = list(self.hands)
        hands[self.on_turn()] = tuple([other for other in self.hand_on_turn() if other != card])
        trick = self.trick + (card,)
        if len(trick) < 4:
            return Position(tuple(hands), self.trump, self.leader, trick)
        winner = seat_behind(self.leader, winning_place(trick, self.trump))
        return Position(tuple(hands), self.trump, winner, ())

    def between_tricks(self):
        """Whether no card was played to the trick yet."""
        return len(self.trick) == 0

    def winner_behind(self):
        """The seat that won a trick with the card that led here, or None.

        Who wins a trick leads to the next, so behind a whole trick the
        leader is the one who won it.
        """
        if self.between_tricks():
            return self.leader
        return None
