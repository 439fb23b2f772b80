"""What a position is worth when every seat plays as well as can be."""

from lasttricksdesk.tricks import side_of


def trick_of_side_0(behind):
    """1 if the card that led to this position made a trick whole and side 0 won it, else 0."""
    winner = behind.winner_behind()
    if winner is not None and side_of(winner) == 0:
        return 1
    return 0


class Search:
    """Tells values, and keeps those it found between two tricks.

    A position within a trick is only reached from the one at the trick's
    beginning, so keeping its value too would save nothing.
    """

    def __init__(self):
        self.found = {}

    def value(self, position):
        """The value of the position."""
        if not position.between_tricks():
            return self.best_of_choices(position)
        key = (position.hands, position.trump, position.leader)
        if key not in self.found:
            self.found[key] = self.best_of_choices(position)
        return self.found[key]

    def best_of_choices(self, position):
        """The best value by a card for the side of the seat on turn, 0 if no card is left."""
        values = [self.value_by(position, card) for card in position.choices()]
        if len(values) == 0:
            return 0
        if side_of(position.on_turn()) == 0:
            return max(values)
        return min(values)

    def value_by(self, position, card):
        """The value by the card, which the seat on turn may play."""
        behind = position.behind(card)
        return trick_of_side_0(behind) + self.value(behind)

    def gift(self, position, card):
        """How many tricks the seat on turn gives away with the card, which it may play."""
        lost = self.value(position) - self.value_by(position, card)
        if side_of(position.on_turn()) == 0:
            return lost
        return -lost

    def least_that_keeps(self, position):
        """The card with the least number that keeps; there is a card to play."""
        cards = position.choices()
        values = [self.value_by(position, card) for card in cards]
        return cards[values.index(self.value(position))]

    def line(self, position):
        """The cards played to the end, each the least that keeps."""
        cards = []
        while position.has_cards():
            card = self.least_that_keeps(position)
            cards.append(card)
            position = position.behind(card)
        return cards
