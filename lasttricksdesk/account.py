"""What played cards come to: the tricks that were made, and who gave away how many with which card."""

from lasttricksdesk.search import trick_of_side_0
from lasttricksdesk.tricks import side_of


def may_be_played(position, cards):
    """Whether each of the cards may be played when it is its turn, from the position on."""
    for card in cards:
        if card not in position.choices():
            return False
        position = position.behind(card)
    return True


def account_of(search, position, cards):
    """The five numbers and the gift of each card; the cards may be played from the position on."""
    value = search.value(position)
    won = 0
    given = [0, 0]
    gifts = []
    for card in cards:
        gift = search.gift(position, card)
        given[side_of(position.on_turn())] += gift
        gifts.append(gift)
        position = position.behind(card)
        won += trick_of_side_0(position)
    return [value, given[0], given[1], won, search.value(position)] + gifts
