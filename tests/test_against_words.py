"""Many contests, answered anew by the words of the document with Python's own fractions."""

import itertools
import unittest
from fractions import Fraction

from tests.helper import CONTEST, EQUILIBRIA, REPLIES, SUPPORT, SURVIVORS, VALUE, ask


def told(number):
    return [number.numerator, number.denominator]


def shares(weights):
    return [Fraction(weight, sum(weights)) for weight in weights]


def win(wins, p, q):
    n = len(p)
    return sum(p[i] * wins[i * n + j] * q[j] for i in range(n) for j in range(n))


def alone(n, i):
    return [Fraction(int(k == i)) for k in range(n)]


def determinant(rows):
    total = 0
    for order in itertools.permutations(range(len(rows))):
        turned = sum(1 for a, b in itertools.combinations(order, 2) if a > b)
        product = -1 if turned % 2 else 1
        for row, column in enumerate(order):
            product *= rows[row][column]
        total += product
    return total


def level(n, wins, strategies):
    """Shares of the n strategies by Cramer's rule; None if the set is singular."""
    rows = [[wins[i * n + j] for j in strategies] + [-1] for i in strategies]
    rows.append([1] * len(strategies) + [0])
    whole = determinant(rows)
    if whole == 0:
        return None
    found = [Fraction(0)] * n
    for place, strategy in enumerate(strategies):
        replaced = [row[:place] + [int(row is rows[-1])] + row[place + 1:] for row in rows]
        found[strategy] = Fraction(determinant(replaced), whole)
    return found


def support(n, wins, strategies):
    p = level(n, wins, strategies)
    if p is None:
        return [-5]
    own = win(wins, p, p)
    if any(p[i] <= 0 for i in strategies) or any(win(wins, alone(n, i), p) > own for i in range(n)):
        return [0]
    return [1] + [number for share in p for number in told(share)] + told(own)


def sets_of(n):
    return [[i for i in range(n) if number >> i & 1] for number in range(1, 1 << n)]


def equilibria(n, wins):
    firsts = [support(n, wins, strategies)[0] for strategies in sets_of(n)]
    resting = [number for number, first in enumerate(firsts, 1) if first == 1]
    singular = [number for number, first in enumerate(firsts, 1) if first == -5]
    return [len(resting)] + resting + [len(singular)] + singular


def survivors(n, wins):
    there = list(range(n))
    while True:
        beaten = [j for j in there
                  if any(all(wins[i * n + k] > wins[j * n + k] for k in there) for i in there)]
        if not beaten:
            return [len(there)] + there
        there = [j for j in there if j not in beaten]


def replies(n, wins, q):
    won = [win(wins, alone(n, i), shares(q)) for i in range(n)]
    best = [i for i in range(n) if won[i] == max(won)]
    return [0] + told(max(won)) + [len(best)] + best


class Sequence:
    """Numbers that look unordered and are the same in every run."""

    def __init__(self, seed):
        self.state = seed

    def number(self, least, most):
        self.state = (self.state * 6364136223846793005 + 1442695040888963407) % (1 << 64)
        return least + (self.state >> 33) % (most - least + 1)

    def weights(self, n, most):
        found = [self.number(0, most) for place in range(n)]
        return found if sum(found) else [1] * n


class AgainstTheWords(unittest.TestCase):
    def assert_answers(self, n, wins, p, q):
        calls = [(CONTEST, n, wins), (VALUE, p, q), (REPLIES, q), (SURVIVORS,), (EQUILIBRIA,)]
        calls.extend((SUPPORT, strategies) for strategies in sets_of(n))
        answered = [[0], [0] + told(win(wins, shares(p), shares(q))), replies(n, wins, q), survivors(n, wins),
                    equilibria(n, wins)]
        answered.extend(support(n, wins, strategies) for strategies in sets_of(n))
        self.assertEqual(ask(*calls), answered, (n, wins, p, q))

    def test_all_small_contests_of_two(self):
        for wins in itertools.product(range(-2, 3), repeat=4):
            self.assert_answers(2, list(wins), [1, 2], [3, 1])

    def test_all_smallest_contests_of_three(self):
        for wins in itertools.product(range(2), repeat=9):
            self.assert_answers(3, list(wins), [1, 0, 2], [1, 1, 1])

    def test_scattered_contests(self):
        sequence = Sequence(2026)
        for most in (1, 2, 5, 1000):
            for n in (1, 2, 3, 4):
                for turn in range(30):
                    wins = [sequence.number(-most, most) for place in range(n * n)]
                    self.assert_answers(n, wins, sequence.weights(n, most), sequence.weights(n, most))


if __name__ == "__main__":
    unittest.main()
