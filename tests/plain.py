"""The document's words gone through as plainly as can be, to hold the program against.

Nothing here is shared with the program: the value is a search over all
plays that keeps nothing.
"""

import random


class Plain:
    """A position as the document has it, and the tricks won since the deal."""

    def __init__(self, trump, leader, hands):
        self.trump = trump
        self.leader = leader
        self.hands = [set(hand) for hand in hands]
        self.trick = []
        self.won = [0, 0]

    def twin(self):
        other = Plain(self.trump, self.leader, self.hands)
        other.trick = list(self.trick)
        other.won = list(self.won)
        return other

    def on_turn(self):
        seat = self.leader
        for card in self.trick:
            seat = 0 if seat == 3 else seat + 1
        return seat

    def may_play(self):
        hand = self.hands[self.on_turn()]
        of_led_suit = {card for card in hand if self.trick and card // 13 == self.trick[0] // 13}
        return sorted(of_led_suit or hand)

    def play(self, card):
        seat = self.on_turn()
        self.hands[seat].remove(card)
        self.trick.append(card)
        if len(self.trick) == 4:
            self.close()

    def close(self):
        trumps = [card for card in self.trick if card // 13 == self.trump]
        of_led_suit = [card for card in self.trick if card // 13 == self.trick[0] // 13]
        winning = max(trumps or of_led_suit)
        self.leader = (self.leader + self.trick.index(winning)) % 4
        self.won[self.leader % 2] += 1
        self.trick = []

    def value(self):
        cards = self.may_play()
        if not cards:
            return 0
        best = max if self.on_turn() in (0, 2) else min
        return best(self.value_by(card) for card in cards)

    def value_by(self, card):
        behind = self.twin()
        behind.play(card)
        return behind.won[0] - self.won[0] + behind.value()

    def told_standing(self):
        return [0, self.on_turn(), self.won[0], self.won[1]]

    def told_turn(self):
        cards = self.may_play()
        return self.told_standing() + [len(cards)] + cards

    def told_cards(self):
        told = [0, len(self.may_play())]
        for card in self.may_play():
            told += [card, self.value_by(card)]
        return told

    def told_line(self):
        line = []
        position = self.twin()
        while position.may_play():
            values = {card: position.value_by(card) for card in position.may_play()}
            least = max if position.on_turn() in (0, 2) else min
            value = least(values.values())
            card = min(card for card in values if values[card] == value)
            line.append(card)
            position.play(card)
        return [0, len(line)] + line


def random_hands(chance, size, pack=range(52)):
    cards = chance.sample(list(pack), 4 * size)
    return [cards[size * seat:size * seat + size] for seat in range(4)]


def seeded(number):
    return random.Random(number)
