import unittest

from calls import TURN, EndingCase, deal, play, plays, run
from plain import Plain, random_hands, seeded

HANDS = [[0, 5, 13], [1, 14, 26], [27, 28, 39], [2, 40, 41]]


class Turn(EndingCase):
    def test_the_leader_may_play_all(self):
        self.assertEqual(self.last(deal(4, 1, *HANDS), TURN), [0, 1, 0, 0, 3, 1, 14, 26])

    def test_the_first_suit_alone_where_the_hand_has_it(self):
        self.assertEqual(self.last(deal(4, 0, *HANDS), play(5), TURN), [0, 1, 0, 0, 1, 1])
        self.assertEqual(self.last(deal(4, 3, *HANDS), play(2), TURN), [0, 0, 0, 0, 2, 0, 5])

    def test_all_where_the_hand_has_none_of_the_suit(self):
        self.assertEqual(self.last(deal(4, 0, *HANDS), *plays(5, 1), TURN), [0, 2, 0, 0, 3, 27, 28, 39])

    def test_trump_makes_no_difference_to_what_may_be_played(self):
        for trump in range(5):
            self.assertEqual(self.last(deal(trump, 0, *HANDS), play(13), TURN), [0, 1, 0, 0, 1, 14])

    def test_changes_nothing(self):
        told = run(deal(4, 0, *HANDS), play(0), TURN, TURN, play(1))
        self.assertEqual(told[2:], [[0, 1, 0, 0, 1, 1], [0, 1, 0, 0, 1, 1], [0, 2, 0, 0]])

    def test_when_no_card_is_left(self):
        self.assertEqual(self.last(deal(0, 3, [], [], [], []), TURN), [0, 3, 0, 0, 0])
        self.assertEqual(self.last(deal(4, 0, [0], [3], [1], [2]), *plays(0, 3, 1, 2), TURN), [0, 1, 0, 1, 0])

    def test_whole_endings_of_each_size_trump_and_leader(self):
        chance = seeded(3)
        for size in range(5):
            for trump in range(5):
                for leader in range(4):
                    self.whole_ending(chance, trump, leader, random_hands(chance, size))
                    self.whole_ending(chance, trump, leader, random_hands(chance, size, range(5, 21)))

    def whole_ending(self, chance, trump, leader, hands):
        """Played to the last card, and taken back to the deal."""
        plain = Plain(trump, leader, hands)
        calls = [deal(trump, leader, *hands), TURN]
        expected = [[0], plain.told_turn()]
        while plain.may_play():
            card = chance.choice(plain.may_play())
            plain.play(card)
            calls += [play(card), TURN]
            expected += [plain.told_standing(), plain.told_turn()]
        self.assertEqual(run(*calls), expected)


if __name__ == "__main__":
    unittest.main()
