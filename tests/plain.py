"""The document's words gone through as plainly as can be, to hold the program against.

Nothing here is shared with the program: the value is a search over all
plays that keeps nothing.
"""

import random


class Plain:
    """A position as the document has it, and the tricks won since the deal."""

    def __init__(self, trump, leader, hands):
        self.trump = trump
        self.leader = leader
        self.hands = [set(hand) for hand in hands]
        self.trick = []
        self.played = []
        self.won = [0, 0]

    def twin(self):
        other = Plain(self.trump, self.leader, self.hands)
        other.trick = list(self.trick)
        other.played = list(self.played)
        other.won = list(self.won)
        return other

    def on_turn(self):
        seat = self.leader
        for card in self.trick:
            seat = 0 if seat == 3 else seat + 1
        return seat

    def may_play(self):
        hand = self.hands[self.on_turn()]
        of_led_suit = {card for card in hand if self.trick and card // 13 == self.trick[0] // 13}
        return sorted(of_led_suit or hand)

    def play(self, card):
        seat = self.on_turn()
        self.hands[seat].remove(card)
        self.trick.append(card)
        self.played.append(card)
        if len(self.trick) == 4:
            self.close()

    def close(self):
        trumps = [card for card in self.trick if card // 13 == self.trump]
        of_led_suit = [card for card in self.trick if card // 13 == self.trick[0] // 13]
        winning = max(trumps or of_led_suit)
        self.leader = (self.leader + self.trick.index(winning)) % 4
        self.won[self.leader % 2] += 1
        self.trick = []

    def value(self):
        cards = self.may_play()
        if not cards:
            return 0
        best = max if self.on_turn() in (0, 2) else min
        return best(self.value_by(card) for card in cards)

    def value_by(self, card):
        behind = self.twin()
        behind.play(card)
        return behind.won[0] - self.won[0] + behind.value()

    def sure(self, side, k):
        """Whether the side gets k tricks more, whatever the other one plays."""
        if k <= 0:
            return True
        cards = self.may_play()
        if not cards:
            return False
        enough = any if self.on_turn() % 2 == side else all
        return enough(self.sure_by(side, k, card) for card in cards)

    def sure_by(self, side, k, card):
        behind = self.twin()
        behind.play(card)
        return behind.sure(side, k - (behind.won[side] - self.won[side]))

    def tricks_left(self):
        return (len(self.trick) + sum(len(hand) for hand in self.hands)) // 4

    def gift(self, card):
        values = {card: self.value_by(card) for card in self.may_play()}
        if self.on_turn() in (0, 2):
            return max(values.values()) - values[card]
        return values[card] - min(values.values())

    def told_account(self, cards):
        position = self.twin()
        gifts = []
        given = [0, 0]
        for card in cards:
            gifts.append(position.gift(card))
            given[position.on_turn() % 2] += gifts[-1]
            position.play(card)
        won = position.won[0] - self.won[0]
        return [0, self.value(), given[0], given[1], won, position.value()] + gifts

    def told_table(self):
        values = [Plain(trump, leader, self.hands).value() for trump in range(5) for leader in range(4)]
        return [0] + values

    @staticmethod
    def parts(card, first, second):
        """Whether the card, of another hand or of the trick, lies between two of one suit."""
        return first < card < second or second < card < first

    def told_alike(self, card):
        hand = [hand for hand in self.hands if card in hand][0]
        others = set(self.trick).union(*self.hands) - hand
        alike = [held for held in sorted(hand) if held // 13 == card // 13
                 and not any(self.parts(other, held, card) for other in others)]
        return [0, len(alike)] + alike

    def told_squeezed(self):
        """Suit by suit from the top, each next card takes the highest number that is left."""
        seen = set(self.trick).union(*self.hands)
        numbers = {}
        for suit in range(4):
            free = 13 * suit + 12
            for card in sorted((card for card in seen if card // 13 == suit), reverse=True):
                numbers[card] = free
                free -= 1
        told = [0]
        for row in self.rows():
            told += [len(row)] + [numbers[card] for card in row]
        return told

    def rows(self):
        return [sorted(hand) for hand in self.hands] + [self.trick]

    def told_told(self):
        told = [0, self.trump, self.leader]
        for row in self.rows() + [self.played]:
            told += [len(row)] + row
        return told

    def told_standing(self):
        return [0, self.on_turn(), self.won[0], self.won[1]]

    def told_turn(self):
        cards = self.may_play()
        return self.told_standing() + [len(cards)] + cards

    def told_cards(self):
        told = [0, len(self.may_play())]
        for card in self.may_play():
            told += [card, self.value_by(card)]
        return told

    def told_line(self):
        line = []
        position = self.twin()
        while position.may_play():
            values = {card: position.value_by(card) for card in position.may_play()}
            least = max if position.on_turn() in (0, 2) else min
            value = least(values.values())
            card = min(card for card in values if values[card] == value)
            line.append(card)
            position.play(card)
        return [0, len(line)] + line


def random_hands(chance, size, pack=range(52)):
    cards = chance.sample(list(pack), 4 * size)
    return [cards[size * seat:size * seat + size] for seat in range(4)]


def seeded(number):
    return random.Random(number)
