import unittest

from calls import BACK, TURN, EndingCase, deal, play, plays, run
from plain import Plain, random_hands, seeded

TWO_EACH = deal(4, 0, [5, 13], [6, 14], [7, 15], [8, 16])


class Back(EndingCase):
    def test_in_the_midst_of_a_trick(self):
        told = run(TWO_EACH, *plays(5, 6), BACK, TURN)
        self.assertEqual(told[-2:], [[0, 1, 0, 0], [0, 1, 0, 0, 1, 6]])

    def test_of_the_first_card_of_a_trick(self):
        told = run(TWO_EACH, *plays(5, 6, 7, 8, 16), BACK, TURN)
        self.assertEqual(told[-2:], [[0, 3, 0, 1], [0, 3, 0, 1, 1, 16]])

    def test_of_the_card_that_made_a_trick_whole(self):
        told = run(TWO_EACH, *plays(5, 6, 7, 8), BACK, TURN)
        self.assertEqual(told[-2:], [[0, 3, 0, 0], [0, 3, 0, 0, 1, 8]])

    def test_over_a_whole_trick(self):
        told = run(TWO_EACH, *plays(5, 6, 7, 8, 16), *[BACK] * 4, TURN)
        self.assertEqual(told[-2:], [[0, 1, 0, 0], [0, 1, 0, 0, 1, 6]])

    def test_to_the_deal_and_no_further(self):
        told = run(TWO_EACH, *plays(5, 6, 7, 8, 16, 13, 14, 15), *[BACK] * 9, TURN)
        self.assertEqual(told[9:17], [[0, 2, 0, 1], [0, 1, 0, 1], [0, 0, 0, 1], [0, 3, 0, 1],
                                      [0, 3, 0, 0], [0, 2, 0, 0], [0, 1, 0, 0], [0, 0, 0, 0]])
        self.assertEqual(told[17:], [[-3], [0, 0, 0, 0, 2, 5, 13]])

    def test_another_card_may_be_played_then(self):
        told = run(TWO_EACH, play(5), BACK, play(13), TURN)
        self.assertEqual(told[-2:], [[0, 1, 0, 0], [0, 1, 0, 0, 1, 14]])

    def test_the_same_card_may_be_played_again(self):
        once = [TWO_EACH, *plays(5, 6, 7, 8)]
        self.assertEqual(self.state_behind(*once, BACK, play(8)), self.state_behind(*once))

    def test_all_is_as_it_was_behind_each_card_of_whole_endings(self):
        chance = seeded(2)
        for trump in range(5):
            hands = random_hands(chance, 3, range(8, 32))
            plain = Plain(trump, trump % 4, hands)
            ahead = [deal(trump, trump % 4, *hands)]
            while plain.may_play():
                card = chance.choice(plain.may_play())
                self.assertEqual(self.state_behind(*ahead, play(card), BACK), self.state_behind(*ahead))
                ahead.append(play(card))
                plain.play(card)


class BackRefused(EndingCase):
    def test_before_any_deal(self):
        self.assert_refused([], BACK, -3)

    def test_behind_a_deal(self):
        self.assert_refused([TWO_EACH], BACK, -3)
        self.assert_refused([TWO_EACH, play(5), TWO_EACH], BACK, -3)
        self.assert_refused([deal(0, 1, [], [], [], [])], BACK, -3)

    def test_when_all_was_taken_back(self):
        self.assert_refused([TWO_EACH, *plays(5, 6), BACK, BACK], BACK, -3)


if __name__ == "__main__":
    unittest.main()
