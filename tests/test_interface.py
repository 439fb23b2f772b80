import unittest

from calls import BACK, CARDS, FAR, LINE, TURN, VALUE, deal, play, plays
from lasttricksdesk.endings import answers

ONE_EACH = deal(4, 0, [2], [0], [1], [13])
ONE_OF_EACH_CALL = sum([ONE_EACH, TURN, VALUE, CARDS, LINE, play(2), play(1), BACK, [0, 5, 0, 0, 0, 0, 0]], [])


class Guarded(list):
    """A list that fails at each change."""

    def refuse(self, *given, **named):
        raise AssertionError("what was handed in was changed")

    append = clear = extend = insert = pop = remove = reverse = sort = refuse
    __setitem__ = __delitem__ = __iadd__ = __imul__ = refuse


class Interface(unittest.TestCase):
    def test_each_answer_has_its_count_ahead(self):
        self.assertEqual(answers(ONE_EACH), [1, 0])
        self.assertEqual(answers(TURN), [5, 0, 0, 0, 0, 0])
        self.assertEqual(answers(VALUE), [2, 0, 0])
        self.assertEqual(answers(CARDS), [2, 0, 0])
        self.assertEqual(answers(LINE), [2, 0, 0])
        self.assertEqual(answers(BACK), [1, -3])
        self.assertEqual(answers(play(7)), [1, -3])
        self.assertEqual(answers(play(52)), [1, -1])

    def test_several_calls_in_one_list(self):
        self.assertEqual(answers(ONE_OF_EACH_CALL), [
            1, 0,
            6, 0, 0, 0, 0, 1, 2,
            2, 0, 1,
            4, 0, 1, 2, 1,
            6, 0, 4, 2, 0, 1, 13,
            4, 0, 1, 0, 0,
            1, -4,
            4, 0, 0, 0, 0,
            1, -1])

    def test_long_rows_are_read_whole_where_they_are_refused(self):
        row = [FAR] * 20
        self.assertEqual(answers(deal(0, 0, row, row, row, row) + TURN), [1, -1, 5, 0, 0, 0, 0, 0])
        self.assertEqual(answers(deal(0, 0, [1], row, [], [2, 3]) + TURN), [1, -1, 5, 0, 0, 0, 0, 0])

    def test_numbers_of_a_row_are_not_taken_for_calls(self):
        told = answers(deal(4, 1, [3, 2], [4, 5], [6, 0], [1, 51]) + TURN)
        self.assertEqual(told, [1, 0, 7, 0, 1, 0, 0, 2, 4, 5])

    def test_a_hundred_calls(self):
        self.assertEqual(answers(sum([ONE_EACH] + plays(2) * 99, [])), [1, 0, 4, 0, 1, 0, 0] + [1, -4] * 98)

    def test_gives_back_a_list_of_whole_numbers(self):
        told = answers(ONE_OF_EACH_CALL)
        self.assertIs(type(told), list)
        self.assertEqual({type(number) for number in told}, {int})

    def test_what_was_handed_in_is_as_it_was(self):
        calls = list(ONE_OF_EACH_CALL)
        answers(calls)
        self.assertEqual(calls, ONE_OF_EACH_CALL)

    def test_what_was_handed_in_is_not_changed_for_a_while_either(self):
        self.assertEqual(answers(Guarded(ONE_OF_EACH_CALL)), answers(ONE_OF_EACH_CALL))

    def test_a_second_run_answers_as_the_first(self):
        first = answers(ONE_OF_EACH_CALL)
        self.assertEqual(answers(ONE_OF_EACH_CALL), first)
        self.assertEqual(answers(TURN + BACK), [5, 0, 0, 0, 0, 0, 1, -3])

    def test_a_changed_answer_is_not_seen_again(self):
        first = answers(ONE_OF_EACH_CALL)
        kept = list(first)
        first.clear()
        self.assertEqual(answers(ONE_OF_EACH_CALL), kept)


if __name__ == "__main__":
    unittest.main()
