"""The ending that is held, and what each call does to it and answers."""

from lasttricksdesk.account import account_of, may_be_played
from lasttricksdesk.heights import alike_in, squeezed_row
from lasttricksdesk.position import Position
from lasttricksdesk.refusals import card_not_there, hands_not_right, may_not_be_played, must_follow
from lasttricksdesk.refusals import no_cards, not_for_a_table, out_of_range
from lasttricksdesk.search import Search
from lasttricksdesk.tricks import side_of


def in_range(number, least, greatest):
    """Whether the number lies in the range, both ends counted."""
    return least <= number and number <= greatest


def row_in_range(cards, longest):
    """Whether the row has no more numbers than told, each of them a card's."""
    if len(cards) > longest:
        return False
    return all([in_range(card, 0, 51) for card in cards])


def hands_are_right(hands):
    """Whether the hands are of like length and no card stands twice."""
    cards = []
    for hand in hands:
        if len(hand) != len(hands[0]):
            return False
        cards.extend(hand)
    return len(set(cards)) == len(cards)


def counted(cards):
    """The cards, with how many they are ahead of them."""
    return [len(cards)] + list(cards)


def all_counted(rows):
    """The rows one behind another, each with its count ahead."""
    told = []
    for row in rows:
        told.extend(counted(row))
    return told


class Ending:
    """The position as it was dealt, the cards played since, and what follows from them.

    Each method that a call names gives back that call's answer: a list
    that begins with 0, or a refusal, which leaves all as it was.
    """

    def __init__(self):
        self.search = Search()
        self.begin(Position(((), (), (), ()), 4, 0, ()))

    def begin(self, position):
        """Hold this position as just dealt."""
        self.dealt = position
        self.position = position
        self.played = []
        self.won = [0, 0]

    def step(self, card):
        """Play the card, which may be played, and count the trick if that makes it whole."""
        self.position = self.position.behind(card)
        self.played.append(card)
        winner = self.position.winner_behind()
        if winner is not None:
            self.won[side_of(winner)] += 1

    def standing(self):
        """What play, back and turn answer alike."""
        return [0, self.position.on_turn(), self.won[0], self.won[1]]

    def rows_now(self):
        """The hands of seats 0 to 3, then the trick."""
        return list(self.position.hands) + [self.position.trick]

    def deal(self, trump, leader, hands):
        """A new ending, with these hands as they came, unsorted."""
        if not in_range(trump, 0, 4) or not in_range(leader, 0, 3):
            return out_of_range()
        if not all([row_in_range(hand, 4) for hand in hands]):
            return out_of_range()
        if not hands_are_right(hands):
            return hands_not_right()
        rising = tuple([tuple(sorted(hand)) for hand in hands])
        self.begin(Position(rising, trump, leader, ()))
        return [0]

    def play(self, card):
        """The seat on turn plays the card."""
        if not in_range(card, 0, 51):
            return out_of_range()
        if not self.position.has_cards():
            return no_cards()
        if card not in self.position.hand_on_turn():
            return card_not_there()
        if card not in self.position.choices():
            return must_follow()
        self.step(card)
        return self.standing()

    def back(self):
        """The last card that was played since the deal is taken back."""
        if len(self.played) == 0:
            return no_cards()
        kept = self.played[:-1]
        self.begin(self.dealt)
        for card in kept:
            self.step(card)
        return self.standing()

    def turn(self):
        """Who is on turn, the tricks won, and what may be played."""
        return self.standing() + counted(self.position.choices())

    def value(self):
        """The value of the position now."""
        return [0, self.search.value(self.position)]

    def cards(self):
        """The cards that may be played, and the value by each."""
        cards = self.position.choices()
        answer = [0, len(cards)]
        for card in cards:
            answer.append(card)
            answer.append(self.search.value_by(self.position, card))
        return answer

    def line(self):
        """The cards from here to the end, each the least that keeps."""
        return [0] + counted(self.search.line(self.position))

    def account(self, cards):
        """What these cards would come to, played from here on."""
        if not row_in_range(cards, 16):
            return out_of_range()
        if not may_be_played(self.position, cards):
            return may_not_be_played()
        return [0] + account_of(self.search, self.position, cards)

    def past(self):
        """What the cards played since the deal come to."""
        return [0] + account_of(self.search, self.dealt, self.played)

    def table(self):
        """The value of the hands with each trump and each leader."""
        if not self.position.between_tricks() or self.position.cards_left() > 12:
            return not_for_a_table()
        answer = [0]
        for trump in range(5):
            for leader in range(4):
                answer.append(self.search.value(Position(self.position.hands, trump, leader, ())))
        return answer

    def alike(self, card):
        """The cards that are as good as this one in the hand that has it."""
        if not in_range(card, 0, 51):
            return out_of_range()
        hand = self.position.hand_with(card)
        if hand is None:
            return card_not_there()
        return [0] + counted(alike_in(hand, card, self.position.seen()))

    def squeezed(self):
        """The hands and the trick, each card as high as can be."""
        seen = self.position.seen()
        return [0] + all_counted([squeezed_row(row, seen) for row in self.rows_now()])

    def can(self, side, k):
        """Whether the side can make sure of at least k of the tricks left."""
        if not in_range(side, 0, 1) or not in_range(k, 0, 4):
            return out_of_range()
        most = self.search.value(self.position)
        if side == 1:
            most = self.position.tricks_left() - most
        return [0, 1 if k <= most else 0]

    def told(self):
        """All that is held."""
        rows = self.rows_now() + [self.played]
        return [0, self.position.trump, self.position.leader] + all_counted(rows)
