"""Many contests and many lists of calls, answered anew by the words of the document (tests/words.py)."""

import itertools
import math
import unittest
from fractions import Fraction

from tests import words
from tests.helper import (
    BEARS, CONTEST, EQUILIBRIA, GREATEST, GROW, LEAST, REPLIES, SCALE, SHIFT, STABLE, STABLES, SUB, SUPPORT, SURVIVORS,
    TOLD, VALUE, ask)


class Sequence:
    """Numbers that look unordered and are the same in every run."""

    def __init__(self, seed):
        self.state = seed

    def number(self, least, most):
        self.state = (self.state * 6364136223846793005 + 1442695040888963407) % (1 << 64)
        return least + (self.state >> 33) % (most - least + 1)

    def choice(self, choices):
        return choices[self.number(0, len(choices) - 1)]

    def numbers(self, size, least, most):
        return [self.number(least, most) for place in range(size)]

    def weights(self, n, most):
        found = [self.choice((0, 1, self.number(0, most))) for place in range(n)]
        return found if sum(found) else [1] * n

    def resting(self, n, most):
        """A contest and weights of a mixture that is at rest there, often beside best replies outside of it."""
        while True:
            p = self.weights(n, 4)
            base = [i for i in range(n) if p[i] > 0][0]
            p[base] = 1
            own = self.number(-most, most)
            rows = [self.numbers(n, -most, most) for strategy in range(n)]
            for i, row in enumerate(rows):
                aim = own if p[i] > 0 or self.number(0, 3) else own - 1
                row[base] = aim * sum(p) - sum(row[j] * p[j] for j in range(n) if j != base)
            wins = [win for row in rows for win in row]
            if max(wins) <= 1000 and min(wins) >= -1000:
                return (n, wins, p)

    def wrong_row(self, n):
        size = self.choice((0, n - 1, n, n + 1, n * n, 40))
        return [self.choice((-1, 0, 1, n, 1000, 1001, LEAST, GREATEST)) for place in range(max(size, 0))]

    def call(self, n):
        """Any call for a contest of n strategies, now and then one that is refused."""
        kind = self.number(0, 13)
        wrong = self.number(0, 7) == 0
        most = self.choice((1, 3, 1000))
        if kind in (TOLD, SURVIVORS, EQUILIBRIA, STABLES):
            return (kind,)
        if kind == CONTEST:
            size = self.number(1, 4)
            wins = self.wrong_row(n) if wrong else self.numbers(size * size, self.choice((0, -most)), most)
            return (CONTEST, size, wins)
        if kind in (SUPPORT, SUB):
            return (kind, self.wrong_row(n) if wrong else self.choice(words.sets_of(n)[::-1]))
        if kind == SCALE:
            return (SCALE, self.choice((0, 101, LEAST, GREATEST)) if wrong else self.choice((1, 2, 3, 10, 100)))
        if kind == SHIFT:
            return (SHIFT, self.wrong_row(n) if wrong else self.numbers(n, -most, most))
        if kind == GROW:
            return (GROW, self.number(-1, 6) if wrong else self.number(0, 5), self.weights(n, most))
        rows = [self.wrong_row(n) if wrong else self.weights(n, most) for row in range(2)]
        return (kind,) + tuple(rows if kind in (VALUE, BEARS) else rows[:1])


class AgainstTheWords(unittest.TestCase):
    def assert_answers(self, calls):
        model = words.Words()
        answered = [model.answer(call) for call in calls]
        self.assertEqual(ask(*calls), answered, calls)
        return answered

    def assert_contest(self, n, wins, p, q):
        calls = [(CONTEST, n, wins), (VALUE, p, q), (REPLIES, q), (SURVIVORS,), (EQUILIBRIA,), (STABLES,), (STABLE, p),
                 (STABLE, q), (BEARS, p, q), (BEARS, q, p), (GROW, 2, p)]
        calls.extend((SUPPORT, strategies) for strategies in words.sets_of(n))
        self.assert_answers(calls)

    def test_all_small_contests_of_two(self):
        for wins in itertools.product(range(-2, 3), repeat=4):
            self.assert_contest(2, list(wins), [1, 2], [3, 1])

    def test_all_smallest_contests_of_three(self):
        for wins in itertools.product(range(2), repeat=9):
            self.assert_contest(3, list(wins), [1, 0, 2], [1, 1, 1])

    def test_scattered_contests(self):
        sequence = Sequence(2026)
        for most in (1, 2, 5, 1000):
            for n in (1, 2, 3, 4):
                for turn in range(25):
                    wins = sequence.numbers(n * n, -most, most)
                    self.assert_contest(n, wins, sequence.weights(n, most), sequence.weights(n, most))

    def test_mixtures_at_rest(self):
        sequence = Sequence(7)
        seen = {}
        for turn in range(1200):
            n, wins, p = sequence.resting(sequence.number(2, 4), sequence.choice((1, 2, 5, 20)))
            answered = self.assert_answers(
                [(CONTEST, n, wins), (STABLE, p), (STABLES,), (BEARS, p, sequence.weights(n, 5)), (REPLIES, p)])
            inside = n - p.count(0)
            outside = answered[4][3] - inside
            seen[(inside, outside, answered[1][0])] = True
        # With each number of strategies in and beside the mixture there were stable ones and others.
        for inside, outside in ((1, 1), (1, 2), (1, 3), (2, 0), (2, 1), (2, 2), (3, 0), (3, 1), (4, 0)):
            self.assertIn((inside, outside, 0), seen)
            self.assertIn((inside, outside, 1), seen)

    def test_stable_of_the_mixtures_that_support_tells(self):
        sequence = Sequence(99)
        for turn in range(150):
            n = sequence.number(2, 4)
            wins = sequence.numbers(n * n, -3, 3)
            calls = [(CONTEST, n, wins)]
            for strategies in words.sets_of(n):
                answered = words.support(n, wins, strategies)
                if answered[0] == 1:
                    p = [Fraction(*answered[place:place + 2]) for place in range(1, 2 * n, 2)]
                    whole = math.lcm(*[share.denominator for share in p])
                    if whole <= 1000:
                        calls.append((STABLE, [int(share * whole) for share in p]))
            self.assert_answers(calls)

    def test_any_calls_in_any_order(self):
        for seed in range(12):
            sequence = Sequence(seed)
            model = words.Words()
            calls = []
            answered = []
            for turn in range(400):
                calls.append(sequence.call(model.n))
                answered.append(model.answer(calls[-1]))
            self.assertEqual(ask(*calls), answered)
            self.assertEqual({call[0] for call in calls}, set(range(14)))


if __name__ == "__main__":
    unittest.main()
