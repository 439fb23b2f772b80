"""Endings played by chance, with the calls that lead to each of their positions."""

from calls import deal, play
from plain import Plain, random_hands


def kinds(sizes):
    """Each size told, with each trump and none, and with each leader."""
    return [(size, trump, leader) for size in sizes for trump in range(5) for leader in range(4)]


def along(chance, size, trump, leader, pack=range(52)):
    """The plain position and the calls that lead to it, at the deal and behind each card played by chance."""
    hands = random_hands(chance, size, pack)
    plain = Plain(trump, leader, hands)
    ahead = [deal(trump, leader, *hands)]
    yield plain.twin(), list(ahead)
    while plain.may_play():
        card = chance.choice(plain.may_play())
        plain.play(card)
        ahead.append(play(card))
        yield plain.twin(), list(ahead)


def cards_to_play(chance, plain, most):
    """So many cards, or all that are left, as they may be played from the position on."""
    position = plain.twin()
    cards = []
    while len(cards) < most and position.may_play():
        cards.append(chance.choice(position.may_play()))
        position.play(cards[-1])
    return cards
