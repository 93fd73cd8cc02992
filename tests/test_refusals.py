"""What is refused, with which number, and that a refused call changes nothing."""

import unittest

from contestways.contest import answers
from tests.helper import (
    CONTEST, EQUILIBRIA, GREATEST, LEAST, REPLIES, SUPPORT, SURVIVORS, TOLD, VALUE,
    ask, ask_of, laid_out, one_of)

THREE = (3, [4, 0, 0, 0, 5, 0, 0, 0, 6])
FAR = (LEAST, GREATEST)


class RefusedContest(unittest.TestCase):
    def assert_refused(self, n, wins):
        before = [3] + THREE[1]
        self.assertEqual(ask_of(THREE, (CONTEST, n, wins), (TOLD,)), [[-1], before], (n, wins))
        self.assertEqual(ask((CONTEST, n, wins), (TOLD,)), [[-1], [1, 0]], (n, wins))

    def test_number_of_strategies(self):
        for n in (0, 5, -1, -2, 6, 40) + FAR:
            for size in (0, 1, 4, 9, 16, 25, 36, 40):
                self.assert_refused(n, [0] * size)

    def test_length_of_the_list(self):
        for n in (1, 2, 3, 4):
            for size in range(41):
                if size != n * n:
                    self.assert_refused(n, [0] * size)

    def test_each_win(self):
        for n in (1, 2, 3, 4):
            for place in range(n * n):
                for win in (1001, -1001, 2000, -2000) + FAR:
                    wins = [0] * (n * n)
                    wins[place] = win
                    self.assert_refused(n, wins)

    def test_edges_that_are_in_range(self):
        for n in (1, 2, 3, 4):
            for win in (1000, 999, -999, -1000):
                wins = [win] * (n * n)
                self.assertEqual(ask((CONTEST, n, wins), (TOLD,)), [[0], [n] + wins])


def wrong_weights(n):
    """Lists that are no weights of n strategies."""
    wrong = [[1] * size for size in range(41) if size != n]
    wrong.append([0] * n)
    for place in range(n):
        for weight in (-1, 1001, -1000, 2000) + FAR:
            weights = [1] * n
            weights[place] = weight
            wrong.append(weights)
    return wrong


class RefusedWeights(unittest.TestCase):
    def test_value_and_replies(self):
        for n in (1, 2, 3, 4):
            contest = (n, [3] * (n * n))
            right = [1] * n
            for wrong in wrong_weights(n):
                parts = ask_of(contest, (VALUE, wrong, right), (VALUE, right, wrong), (VALUE, wrong, wrong),
                               (REPLIES, wrong), (TOLD,))
                self.assertEqual(parts, [[-1], [-1], [-1], [-1], [n] + contest[1]], wrong)

    def test_below_0_though_the_sum_is_above_0(self):
        self.assertEqual(ask_of(THREE, (VALUE, [5, -1, 1], [1, 1, 1]), (REPLIES, [-1, 1000, 0])), [[-1], [-1]])

    def test_edges_that_are_in_range(self):
        self.assertEqual(
            ask_of(THREE, (VALUE, [1000, 0, 0], [1, 0, 0]), (VALUE, [0, 0, 1], [0, 0, 1000]),
                   (REPLIES, [0, 1000, 0]), (REPLIES, [0, 0, 1]), (REPLIES, [1000, 1000, 1000])),
            [[0, 4, 1], [0, 6, 1], [0, 5, 1, 1, 1], [0, 6, 1, 1, 2], [0, 2, 1, 1, 2]])

    def test_the_list_is_measured_by_the_contest_that_is_there(self):
        self.assertEqual(
            ask((REPLIES, [1, 1]), (CONTEST, 2, [1, 0, 0, 1]), (REPLIES, [1, 1]), (CONTEST, 2, [1001, 0, 0, 0]),
                (REPLIES, [1, 1]), (CONTEST, 1, [2]), (REPLIES, [1, 1]), (REPLIES, [1])),
            [[-1], [0], [0, 1, 2, 2, 0, 1], [-1], [0, 1, 2, 2, 0, 1], [0], [-1], [0, 2, 1, 1, 0]])


class RefusedSupport(unittest.TestCase):
    def assert_refused(self, contest, strategies):
        self.assertEqual(ask_of(contest, (SUPPORT, strategies), (TOLD,)), [[-1], [contest[0]] + contest[1]], strategies)

    def test_empty(self):
        for n in (1, 2, 3, 4):
            self.assert_refused((n, [1] * (n * n)), [])

    def test_strategies_that_are_not_there(self):
        for n in (1, 2, 3, 4):
            contest = (n, [1] * (n * n))
            for strategy in (-1, n, n + 1) + FAR:
                self.assert_refused(contest, [strategy])
                self.assert_refused(contest, sorted([0, strategy]))
                self.assert_refused(contest, sorted([n - 1, strategy]))

    def test_not_going_up(self):
        for strategies in ([0, 0], [1, 0], [2, 1], [0, 2, 1], [1, 0, 2], [0, 1, 1], [0, 0, 1], [2, 1, 0], [2, 2]):
            self.assert_refused(THREE, strategies)

    def test_too_long(self):
        self.assert_refused(THREE, [0, 1, 2, 3])
        self.assert_refused(THREE, [0, 1, 2, 2])
        for size in range(4, 41):
            self.assert_refused(THREE, list(range(size)))
            self.assert_refused(THREE, [0] * size)

    def test_out_of_range_comes_before_singular(self):
        contest = (2, [1, 1, 1, 1])
        self.assertEqual(ask_of(contest, (SUPPORT, [0, 1]), (SUPPORT, [1, 0]), (SUPPORT, [0, 1, 2])),
                         [[-5], [-1], [-1]])

    def test_edges_that_are_in_range(self):
        self.assertEqual(ask_of(THREE, (SUPPORT, [0]), (SUPPORT, [2]), (SUPPORT, [0, 2]), (SUPPORT, [0, 1, 2])), [
            [1, 1, 1, 0, 1, 0, 1, 4, 1],
            [1, 0, 1, 0, 1, 1, 1, 6, 1],
            [1, 3, 5, 0, 1, 2, 5, 12, 5],
            [1, 15, 37, 12, 37, 10, 37, 60, 37],
        ])


class HowARefusalIsTold(unittest.TestCase):
    def test_its_number_alone_with_the_count_before_it(self):
        self.assertEqual(answers([0, 0, 0]), [1, -1])
        self.assertEqual(answers([0, 2, 3, 1, 1, 1]), [1, -1])
        self.assertEqual(answers([2, 0, 0]), [1, -1])
        self.assertEqual(answers([3, 1, 1001]), [1, -1])
        self.assertEqual(answers([5, 0]), [1, -1])
        self.assertEqual(answers([0, 2, 4, 1, 1, 1, 1, 5, 2, 0, 1]), [1, 0, 1, -5])

    def test_what_stands_behind_a_refused_call_is_answered(self):
        calls = ((CONTEST, 9, list(range(40))), (VALUE, [0] * 40, [7] * 39), (REPLIES, []), (SUPPORT, [6] * 40), (TOLD,))
        self.assertEqual(answers(laid_out(calls)), [1, -1, 1, -1, 1, -1, 1, -1, 2, 1, 0])

    def test_a_number_below_0_behind_the_first_is_no_refusal(self):
        self.assertEqual(answers([0, 1, 1, -1, 1, 2, 1, 1, 1, 1]), [1, 0, 2, 1, -1, 3, 0, -1, 1])
        self.assertEqual(one_of((1, [-5]), REPLIES, [1]), [0, -5, 1, 1, 0])

    def test_refused_calls_change_nothing(self):
        kept = ((TOLD,), (SURVIVORS,), (EQUILIBRIA,), (VALUE, [1, 2, 3], [3, 2, 1]), (REPLIES, [1, 1, 1]))
        refused = ((CONTEST, 2, [1, 1, 1]), (CONTEST, 5, [1] * 25), (CONTEST, 3, [1] * 8 + [1001]),
                   (VALUE, [1], [1]), (REPLIES, [0, 0, 0]), (SUPPORT, [3]))
        parts = ask_of(THREE, *(kept + refused + kept))
        self.assertEqual(parts[:5], parts[-5:])
        self.assertEqual(parts[5:-5], [[-1]] * 6)


if __name__ == "__main__":
    unittest.main()
