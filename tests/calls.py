"""Calls as the numbers that are handed in, and the answers read call by call."""

import unittest

from lasttricksdesk.endings import answers

BACK = [2]
TURN = [3]
VALUE = [4]
CARDS = [5]
LINE = [6]
PAST = [8]
TABLE = [9]
SQUEEZED = [11]
TOLD = [13]

FAR = 10 ** 18

# Every number that lies just outside of the range of a card, and far outside.
NO_CARD_NUMBERS = [-1, 52, -FAR, FAR]


def deal(trump, leader, *hands):
    call = [0, trump, leader]
    for hand in hands:
        call += [len(hand)] + list(hand)
    return call


def play(card):
    return [1, card]


def plays(*cards):
    return [play(card) for card in cards]


def account(*cards):
    return [7, len(cards)] + list(cards)


def alike(card):
    return [10, card]


def can(side, k):
    return [12, side, k]


def split(told):
    """The answers one by one, taken apart by the counts ahead of them."""
    found = []
    place = 0
    while place < len(told):
        size = told[place]
        answer = told[place + 1:place + 1 + size]
        if size < 1 or len(answer) != size:
            raise AssertionError(f"an answer of {size} numbers at {place} of {told}")
        found.append(answer)
        place += 1 + size
    return found


def run(*calls):
    """The answer of each call, all of them handed in as one list."""
    found = split(answers(sum(calls, [])))
    if len(found) != len(calls):
        raise AssertionError(f"{len(found)} answers to {len(calls)} calls")
    return found


class EndingCase(unittest.TestCase):
    def last(self, *calls):
        return run(*calls)[-1]

    def state_behind(self, *calls):
        """All that can be asked of an ending, back to how it was dealt.

        Four of these calls are of those that a line may have six of.
        """
        probes = [TOLD, TURN, CARDS, VALUE, LINE, PAST] + [BACK, TOLD] * 17
        return run(*calls, *probes)[len(calls):]

    def assert_refused(self, ahead, call, refusal):
        """The call is answered with the refusal alone, and all is as it was."""
        self.assertEqual(self.last(*ahead, call), [refusal])
        self.assertEqual(self.state_behind(*ahead, call), self.state_behind(*ahead))
