"""What is refused, with which number, and that a refused call changes nothing."""

import unittest

from contestways.contest import answers
from tests.helper import (
    BEARS, CONTEST, EQUILIBRIA, GREATEST, GROW, LEAST, REPLIES, SCALE, SHIFT, STABLE, STABLES, SUB, SUPPORT, SURVIVORS,
    TOLD, VALUE, ask, ask_of, laid_out, one_of)

THREE = (3, [4, 0, 0, 0, 5, 0, 0, 0, 6])
FAR = (LEAST, GREATEST)


class RefusedContest(unittest.TestCase):
    def assert_refused(self, n, wins):
        before = [3] + THREE[1]
        self.assertEqual(ask_of(THREE, (CONTEST, n, wins), (TOLD,)), [[-1], before], (n, wins))
        self.assertEqual(ask((CONTEST, n, wins), (TOLD,)), [[-1], [1, 0]], (n, wins))

    def test_number_of_strategies(self):
        for n in (0, 5, -1, -2, 6, 40) + FAR:
            for size in (0, 1, 4, 9, 16, 25, 36, 40):
                self.assert_refused(n, [0] * size)

    def test_length_of_the_list(self):
        for n in (1, 2, 3, 4):
            for size in range(41):
                if size != n * n:
                    self.assert_refused(n, [0] * size)

    def test_each_win(self):
        for n in (1, 2, 3, 4):
            for place in range(n * n):
                for win in (1001, -1001, 2000, -2000) + FAR:
                    wins = [0] * (n * n)
                    wins[place] = win
                    self.assert_refused(n, wins)

    def test_edges_that_are_in_range(self):
        for n in (1, 2, 3, 4):
            for win in (1000, 999, -999, -1000):
                wins = [win] * (n * n)
                self.assertEqual(ask((CONTEST, n, wins), (TOLD,)), [[0], [n] + wins])


def wrong_weights(n):
    """Lists that are no weights of n strategies."""
    wrong = [[1] * size for size in range(41) if size != n]
    wrong.append([0] * n)
    for place in range(n):
        for weight in (-1, 1001, -1000, 2000) + FAR:
            weights = [1] * n
            weights[place] = weight
            wrong.append(weights)
    return wrong


class RefusedWeights(unittest.TestCase):
    def test_each_list_of_weights(self):
        for n in (1, 2, 3, 4):
            contest = (n, [3] * (n * n))
            right = [1] * n
            for wrong in wrong_weights(n):
                calls = [(VALUE, wrong, right), (VALUE, right, wrong), (VALUE, wrong, wrong), (REPLIES, wrong),
                         (STABLE, wrong), (BEARS, wrong, right), (BEARS, right, wrong), (BEARS, wrong, wrong)]
                calls.extend((GROW, t, wrong) for t in (0, 1, 5, 6))
                parts = ask_of(contest, *calls, (TOLD,))
                self.assertEqual(parts, [[-1]] * len(calls) + [[n] + contest[1]], wrong)

    def test_below_0_though_the_sum_is_above_0(self):
        wrong = [5, -1, 1]
        self.assertEqual(ask_of(THREE, (VALUE, wrong, [1, 1, 1]), (REPLIES, [-1, 1000, 0]), (STABLE, wrong),
                                (BEARS, wrong, [1, 1, 1]), (BEARS, [1, 1, 1], wrong), (GROW, 0, wrong)), [[-1]] * 6)

    def test_edges_that_are_in_range(self):
        self.assertEqual(
            ask_of(THREE, (VALUE, [1000, 0, 0], [1, 0, 0]), (VALUE, [0, 0, 1], [0, 0, 1000]),
                   (REPLIES, [0, 1000, 0]), (REPLIES, [0, 0, 1]), (REPLIES, [1000, 1000, 1000]),
                   (STABLE, [0, 1000, 0]), (STABLE, [1000, 1000, 1000]), (BEARS, [1000, 0, 0], [0, 0, 1000]),
                   (GROW, 1, [1000, 1000, 0]), (GROW, 5, [0, 0, 1000])),
            [[0, 4, 1], [0, 6, 1], [0, 5, 1, 1, 1], [0, 6, 1, 1, 2], [0, 2, 1, 1, 2],
             [1], [0], [2, 5], [0, 4, 9, 5, 9, 0, 1], [0, 0, 1, 0, 1, 1, 1]])

    def test_the_list_is_measured_by_the_contest_that_is_there(self):
        self.assertEqual(
            ask((REPLIES, [1, 1]), (CONTEST, 2, [1, 0, 0, 1]), (REPLIES, [1, 1]), (CONTEST, 2, [1001, 0, 0, 0]),
                (REPLIES, [1, 1]), (CONTEST, 1, [2]), (REPLIES, [1, 1]), (REPLIES, [1])),
            [[-1], [0], [0, 1, 2, 2, 0, 1], [-1], [0, 1, 2, 2, 0, 1], [0], [-1], [0, 2, 1, 1, 0]])


class RefusedStrategies(unittest.TestCase):
    def assert_refused(self, contest, strategies):
        self.assertEqual(ask_of(contest, (SUPPORT, strategies), (SUB, strategies), (TOLD,)),
                         [[-1], [-1], [contest[0]] + contest[1]], strategies)

    def test_empty(self):
        for n in (1, 2, 3, 4):
            self.assert_refused((n, [1] * (n * n)), [])

    def test_strategies_that_are_not_there(self):
        for n in (1, 2, 3, 4):
            contest = (n, [1] * (n * n))
            for strategy in (-1, n, n + 1) + FAR:
                self.assert_refused(contest, [strategy])
                self.assert_refused(contest, sorted([0, strategy]))
                self.assert_refused(contest, sorted([n - 1, strategy]))

    def test_not_going_up(self):
        for strategies in ([0, 0], [1, 0], [2, 1], [0, 2, 1], [1, 0, 2], [0, 1, 1], [0, 0, 1], [2, 1, 0], [2, 2]):
            self.assert_refused(THREE, strategies)

    def test_too_long(self):
        self.assert_refused(THREE, [0, 1, 2, 3])
        self.assert_refused(THREE, [0, 1, 2, 2])
        for size in range(4, 41):
            self.assert_refused(THREE, list(range(size)))
            self.assert_refused(THREE, [0] * size)

    def test_out_of_range_comes_before_singular(self):
        contest = (2, [1, 1, 1, 1])
        self.assertEqual(ask_of(contest, (SUPPORT, [0, 1]), (SUPPORT, [1, 0]), (SUPPORT, [0, 1, 2])),
                         [[-5], [-1], [-1]])

    def test_edges_that_are_in_range(self):
        self.assertEqual(ask_of(THREE, (SUPPORT, [0]), (SUPPORT, [2]), (SUPPORT, [0, 2]), (SUPPORT, [0, 1, 2])), [
            [1, 1, 1, 0, 1, 0, 1, 4, 1],
            [1, 0, 1, 0, 1, 1, 1, 6, 1],
            [1, 3, 5, 0, 1, 2, 5, 12, 5],
            [1, 15, 37, 12, 37, 10, 37, 60, 37],
        ])


class RefusedNumbers(unittest.TestCase):
    def test_times_to_grow(self):
        for t in (-1, 6, 7, 100) + FAR:
            self.assertEqual(ask_of(THREE, (GROW, t, [1, 1, 1]), (TOLD,)), [[-1], [3] + THREE[1]])
            self.assertEqual(ask((GROW, t, [1])), [[-1]])
        for t in range(6):
            self.assertEqual(one_of(THREE, GROW, t, [1, 0, 0]), [0, 1, 1, 0, 1, 0, 1])

    def test_factor_of_a_scale(self):
        for k in (0, -1, 101, 102, -100) + FAR:
            self.assertEqual(ask_of(THREE, (SCALE, k), (TOLD,)), [[-1], [3] + THREE[1]])
            self.assertEqual(ask((SCALE, k), (TOLD,)), [[-1], [1, 0]])
        for k in (1, 2, 99, 100):
            self.assertEqual(ask_of(THREE, (SCALE, k), (TOLD,)), [[0], [3] + [win * k for win in THREE[1]]])

    def test_numbers_of_a_shift(self):
        for n in (1, 2, 3, 4):
            contest = (n, [3] * (n * n))
            for size in range(41):
                if size != n:
                    self.assertEqual(ask_of(contest, (SHIFT, [1] * size), (TOLD,)), [[-1], [n] + contest[1]])
            for place in range(n):
                for more in (1001, -1001) + FAR:
                    b = [1] * n
                    b[place] = more
                    self.assertEqual(ask_of(contest, (SHIFT, b), (TOLD,)), [[-1], [n] + contest[1]])
            for more in (1000, 999, 0, -999, -1000):
                self.assertEqual(ask_of(contest, (SHIFT, [more] * n), (TOLD,)), [[0], [n] + [3 + more] * (n * n)])


class TheOrderOfRefusals(unittest.TestCase):
    def test_out_of_range_comes_before_the_same_mixture(self):
        for wrong in ([0, 0, 0], [1001, 0, 0], [-1, 0, 0], [1, 1], []):
            self.assertEqual(one_of(THREE, BEARS, wrong, wrong), [-1])
        self.assertEqual(ask_of(THREE, (BEARS, [500, 0, 0], [1001, 0, 0]), (BEARS, [1001, 0, 0], [500, 0, 0]),
                                (BEARS, [500, 0, 0], [1000, 0, 0])), [[-1], [-1], [-6]])

    def test_out_of_range_comes_before_a_win_below_0(self):
        contest = (2, [0, 0, -1, 0])
        self.assertEqual(ask_of(contest, (GROW, 6, [1, 0]), (GROW, -1, [1, 0]), (GROW, 1, [0, 0]), (GROW, 1, [1]),
                                (GROW, 0, [1001, 0]), (GROW, 5, [1, 0])), [[-1]] * 5 + [[-7]])

    def test_out_of_range_comes_before_nothing_won(self):
        self.assertEqual(ask((GROW, 6, [1]), (GROW, 1, [0]), (GROW, 1, [1, 1]), (GROW, 1, [1])),
                         [[-1], [-1], [-1], [-8]])

    def test_a_win_below_0_comes_before_nothing_won(self):
        self.assertEqual(ask_of((2, [0, 0, 0, -1]), (GROW, 1, [1, 0]), (GROW, 0, [1, 0])), [[-7], [-7]])

    def test_out_of_range_comes_before_a_win_too_far(self):
        parts = ask_of((2, [1000, 0, 0, 0]), (SCALE, 100), (SCALE, 10), (SCALE, 101), (SCALE, GREATEST), (SCALE, 100),
                       (SHIFT, [1001, 0]), (SHIFT, [1]), (SHIFT, [1, 0, 0]), (SHIFT, [1, GREATEST]), (SHIFT, [1, 0]))
        self.assertEqual(parts, [[0], [0], [-1], [-1], [-9], [-1], [-1], [-1], [-1], [-9]])


class HowARefusalIsTold(unittest.TestCase):
    def test_its_number_alone_with_the_count_before_it(self):
        self.assertEqual(answers([0, 0, 0]), [1, -1])
        self.assertEqual(answers([0, 2, 3, 1, 1, 1]), [1, -1])
        self.assertEqual(answers([2, 0, 0]), [1, -1])
        self.assertEqual(answers([3, 1, 1001]), [1, -1])
        self.assertEqual(answers([5, 0]), [1, -1])
        self.assertEqual(answers([0, 2, 4, 1, 1, 1, 1, 5, 2, 0, 1]), [1, 0, 1, -5])
        self.assertEqual(answers([7, 0]), [1, -1])
        self.assertEqual(answers([9, 1, 2, 1, 3]), [1, -6])
        self.assertEqual(answers([9, 0, 0]), [1, -1])
        self.assertEqual(answers([11, 1, -3, 10, 0, 1, 1]), [1, 0, 1, -7])
        self.assertEqual(answers([10, 1, 1, 1]), [1, -8])
        self.assertEqual(answers([10, 6, 1, 1]), [1, -1])
        self.assertEqual(answers([0, 1, 1, 1000, 12, 100, 12, 100, 11, 0, 12, 0, 13, 0]),
                         [1, 0, 1, 0, 1, -9, 1, -1, 1, -1, 1, -1])

    def test_what_stands_behind_a_refused_call_is_answered(self):
        calls = ((CONTEST, 9, list(range(40))), (VALUE, [0] * 40, [7] * 39), (REPLIES, []), (SUPPORT, [6] * 40),
                 (STABLE, list(range(40))), (BEARS, [], [13] * 40), (BEARS, [1] * 40, []), (GROW, LEAST, [12] * 40),
                 (SHIFT, [11] * 40), (SCALE, LEAST), (SUB, [10] * 40), (TOLD,))
        self.assertEqual(answers(laid_out(calls)), [1, -1] * 11 + [2, 1, 0])

    def test_a_number_below_0_behind_the_first_is_no_refusal(self):
        self.assertEqual(answers([0, 1, 1, -1, 1, 2, 1, 1, 1, 1]), [1, 0, 2, 1, -1, 3, 0, -1, 1])
        self.assertEqual(one_of((1, [-5]), REPLIES, [1]), [0, -5, 1, 1, 0])

    def test_refused_calls_change_nothing(self):
        kept = ((TOLD,), (SURVIVORS,), (EQUILIBRIA,), (VALUE, [1, 2, 3], [3, 2, 1]), (REPLIES, [1, 1, 1]),
                (STABLE, [15, 12, 10]), (STABLES,), (BEARS, [1, 0, 0], [0, 1, 0]), (GROW, 5, [1, 2, 3]))
        refused = ((CONTEST, 2, [1, 1, 1]), (CONTEST, 5, [1] * 25), (CONTEST, 3, [1] * 8 + [1001]),
                   (VALUE, [1], [1]), (REPLIES, [0, 0, 0]), (SUPPORT, [3]), (STABLE, []), (BEARS, [1], [1]),
                   (GROW, 6, [1, 1, 1]), (SHIFT, [1, 2, 1001]), (SCALE, 0), (SUB, [1, 3]), (SUB, [1, 0]))
        parts = ask_of(THREE, *(kept + refused + kept))
        self.assertEqual(parts[:9], parts[-9:])
        self.assertEqual(parts[9:-9], [[-1]] * 13)

    def test_calls_refused_otherwise_change_nothing(self):
        contest = (3, [1000, 1000, 0, 1000, 1000, 0, 0, 0, 0])
        kept = ((TOLD,), (EQUILIBRIA,), (STABLES,))
        parts = ask_of(contest, (SCALE, 100), (SCALE, 10), *kept, (SUPPORT, [0, 1]), (BEARS, [1, 1, 0], [2, 2, 0]),
                       (GROW, 1, [0, 0, 1]), (SHIFT, [1, 0, 0]), (SCALE, 2), *kept)
        self.assertEqual(parts[2:5], parts[-3:])
        self.assertEqual(parts[5:-3], [[-5], [-6], [-8], [-9], [-9]])
        below = ask_of((1, [-1]), (TOLD,), (GROW, 1, [1]), (TOLD,))
        self.assertEqual(below, [[1, -1], [-7], [1, -1]])


if __name__ == "__main__":
    unittest.main()
