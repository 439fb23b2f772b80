"""The ending that is held, and what each call does to it and answers."""

from lasttricksdesk.position import Position
from lasttricksdesk.refusals import card_not_there, hands_not_right, must_follow, no_cards, out_of_range
from lasttricksdesk.search import Search
from lasttricksdesk.tricks import side_of


def in_range(number, least, greatest):
    """Whether the number lies in the range, both ends counted."""
    return least <= number and number <= greatest


def row_in_range(cards, longest):
    """Whether the row has no more numbers than told, each of them a card's."""
    if len(cards) > longest:
        return False
    return all([in_range(card, 0, 51) for card in cards])


def hands_are_right(hands):
    """Whether the hands are of like length and no card stands twice."""
    cards = []
    for hand in hands:
        if len(hand) != len(hands[0]):
            return False
        cards.extend(hand)
    return len(set(cards)) == len(cards)


class Ending:
    """The position as it was dealt, the cards played since, and what follows from them.

    Each method that a call names gives back that call's answer: a list
    that begins with 0, or a refusal, which leaves all as it was.
    """

    def __init__(self):
        self.search = Search()
        self.begin(Position(((), (), (), ()), 4, 0, ()))

    def begin(self, position):
        """Hold this position as just dealt."""
        self.dealt = position
        self.position = position
        self.played = []
        self.won = [0, 0]

    def step(self, card):
        """Play the card, which may be played, and count the trick if that makes it whole."""
        self.position = self.position.behind(card)
        self.played.append(card)
        winner = self.position.winner_behind()
        if winner is not None:
            self.won[side_of(winner)] += 1

    def standing(self):
        """What play, back and turn answer alike."""
        return [0, self.position.on_turn(), self.won[0], self.won[1]]

    def deal(self, trump, leader, hands):
        """A new ending, with these hands as they came, unsorted."""
        if not in_range(trump, 0, 4) or not in_range(leader, 0, 3):
            return out_of_range()
        if not all([row_in_range(hand, 4) for hand in hands]):
            return out_of_range()
        if not hands_are_right(hands):
            return hands_not_right()
        rising = tuple([tuple(sorted(hand)) for hand in hands])
        self.begin(Position(rising, trump, leader, ()))
        return [0]

    def play(self, card):
        """The seat on turn plays the card."""
        if not in_range(card, 0, 51):
            return out_of_range()
        if not self.position.has_cards():
            return no_cards()
        if card not in self.position.hand_on_turn():
            return card_not_there()
        if card not in self.position.choices():
            return must_follow()
        self.step(card)
        return self.standing()

    def back(self):
        """The last card that was played since the deal is taken back."""
        if len(self.played) == 0:
            return no_cards()
        kept = self.played[:-1]
        self.begin(self.dealt)
        for card in kept:
            self.step(card)
        return self.standing()

    def turn(self):
        """Who is on turn, the tricks won, and what may be played."""
        cards = self.position.choices()
        return self.standing() + [len(cards)] + cards

    def value(self):
        """The value of the position now."""
        return [0, self.search.value(self.position)]

    def cards(self):
        """The cards that may be played, and the value by each."""
        cards = self.position.choices()
        answer = [0, len(cards)]
        for card in cards:
            answer.append(card)
            answer.append(self.search.value_by(self.position, card))
        return answer

    def line(self):
        """The cards from here to the end, each the least that keeps."""
        cards = self.search.line(self.position)
        return [0, len(cards)] + cards
