"""How the cards of a suit stand to one another, whatever their numbers."""

from lasttricksdesk.tricks import suit_of, top_of


def parted(first, second, others):
    """Whether one of the other cards lies between the two, which are of one suit."""
    low = min(first, second)
    high = max(first, second)
    return any([low < other and other < high for other in others])


def alike_in(hand, card, seen):
    """The cards of the hand that are alike with this one of it; seen are all cards of hands and trick."""
    others = [other for other in seen if other not in hand]
    of_suit = [held for held in hand if suit_of(held) == suit_of(card)]
    return [held for held in of_suit if not parted(held, card, others)]


def squeezed_card(card, seen):
    """The card as high as can be, with as many above it as now; seen are all cards of hands and trick."""
    higher = [other for other in seen if suit_of(other) == suit_of(card) and other > card]
    return top_of(suit_of(card)) - len(higher)


def squeezed_row(cards, seen):
    """The cards, in their order, each as high as can be."""
    return [squeezed_card(card, seen) for card in cards]
