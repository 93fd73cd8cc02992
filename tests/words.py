"""The words of the document once more, with Python's own fractions and by other ways than the program's.

A contest is n and its wins in one list; a mixture is a list of fractions.
"""

import itertools
from fractions import Fraction

from tests.helper import (
    BEARS, CONTEST, EQUILIBRIA, GROW, REPLIES, SCALE, SHIFT, STABLE, STABLES, SUB, SUPPORT, SURVIVORS, TOLD, VALUE)


def told(number):
    return [number.numerator, number.denominator]


def told_mixture(p):
    return [number for share in p for number in told(share)]


def shares(weights):
    return [Fraction(weight, sum(weights)) for weight in weights]


def win(wins, p, q):
    n = len(p)
    return sum(p[i] * wins[i * n + j] * q[j] for i in range(n) for j in range(n))


def alone(n, i):
    return [Fraction(int(k == i)) for k in range(n)]


def between(p, q, y):
    """The mixture of y times q and 1 - y times p."""
    return [y * of_q + (1 - y) * of_p for of_p, of_q in zip(p, q)]


def without(rows, row, column):
    return [each[:column] + each[column + 1:] for place, each in enumerate(rows) if place != row]


def determinant(rows):
    total = 0
    for order in itertools.permutations(range(len(rows))):
        turned = sum(1 for a, b in itertools.combinations(order, 2) if a > b)
        product = -1 if turned % 2 else 1
        for row, column in enumerate(order):
            product *= rows[row][column]
        total += product
    return total


def level(n, wins, strategies):
    """Shares of the n strategies by Cramer's rule; None if the set is singular."""
    rows = [[wins[i * n + j] for j in strategies] + [-1] for i in strategies]
    rows.append([1] * len(strategies) + [0])
    whole = determinant(rows)
    if whole == 0:
        return None
    found = [Fraction(0)] * n
    for place, strategy in enumerate(strategies):
        replaced = [row[:place] + [int(row is rows[-1])] + row[place + 1:] for row in rows]
        found[strategy] = Fraction(determinant(replaced), whole)
    return found


def best_replies(n, wins, q):
    won = [win(wins, alone(n, i), q) for i in range(n)]
    return [i for i in range(n) if won[i] == max(won)]


def replies(n, wins, q):
    best = best_replies(n, wins, q)
    return [0] + told(win(wins, alone(n, best[0]), q)) + [len(best)] + best


def at_rest(n, wins, p):
    best = best_replies(n, wins, p)
    return all(i in best for i in range(n) if p[i] > 0)


def rest_on(n, wins, strategies):
    """The mixture at rest with this support; None if there is none. The set isn't singular."""
    p = level(n, wins, strategies)
    return p if all(p[i] > 0 for i in strategies) and at_rest(n, wins, p) else None


def support(n, wins, strategies):
    if level(n, wins, strategies) is None:
        return [-5]
    p = rest_on(n, wins, strategies)
    return [0] if p is None else [1] + told_mixture(p) + told(win(wins, p, p))


def sets_of(n):
    return [[i for i in range(n) if number >> i & 1] for number in range(1, 1 << n)]


def counted(found):
    return [len(found)] + found


def equilibria(n, wins):
    firsts = [support(n, wins, strategies)[0] for strategies in sets_of(n)]
    resting = [number for number, first in enumerate(firsts, 1) if first == 1]
    singular = [number for number, first in enumerate(firsts, 1) if first == -5]
    return counted(resting) + counted(singular)


def survivors(n, wins):
    there = list(range(n))
    while True:
        beaten = [j for j in there
                  if any(all(wins[i * n + k] > wins[j * n + k] for k in there) for i in there)]
        if not beaten:
            return counted(there)
        there = [j for j in there if j not in beaten]


def withstands(wins, p, q):
    """What the document asks of p beside one other mixture q."""
    ahead = win(wins, p, p) - win(wins, q, p)
    return ahead > 0 or (ahead == 0 and win(wins, p, q) > win(wins, q, q))


def strictly_copositive(form):
    """Keller's criterion: where the cofactors of a principal minor's last row are above 0, it is above 0."""
    for strategies in sets_of(len(form)):
        minor = [[form[i][j] for j in strategies] for i in strategies]
        last = len(minor) - 1
        cofactors = [(-1) ** (last + column) * determinant(without(minor, last, column)) for column in range(last + 1)]
        if all(cofactor > 0 for cofactor in cofactors) and determinant(minor) <= 0:
            return False
    return True


def stable(n, wins, p):
    """Whether p withstands all: at rest, and the way to each mixture of best replies goes downwards."""
    if not at_rest(n, wins, p):
        return False
    base = max(i for i in range(n) if p[i] > 0)
    others = [i for i in best_replies(n, wins, p) if i != base]
    # Shares of strategies in p may grow or shrink, the others' may grow only.
    for signs in itertools.product(*[(1, -1) if p[i] > 0 else (1,) for i in others]):
        ways = [[sign * (to - back) for to, back in zip(alone(n, i), alone(n, base))]
                for i, sign in zip(others, signs)]
        if not strictly_copositive([[-win(wins, a, b) - win(wins, b, a) for b in ways] for a in ways]):
            return False
    return True


def stables(n, wins):
    found = []
    for number, strategies in enumerate(sets_of(n), 1):
        if level(n, wins, strategies) is not None:
            p = rest_on(n, wins, strategies)
            if p is not None and stable(n, wins, p):
                found.append(number)
    return counted(found)


def bears(wins, p, q):
    if p == q:
        return [-6]
    start = win(wins, p, p) - win(wins, q, p)
    end = win(wins, p, q) - win(wins, q, q)
    if start > 0:
        return told(min(Fraction(1), start / (start - end)) if end < start else Fraction(1))
    return [1, 1] if start == 0 and end > 0 else [0, 1]


def grow(n, wins, t, p):
    if min(wins) < 0:
        return [-7]
    for turn in range(t):
        own = win(wins, p, p)
        if own == 0:
            return [-8]
        p = [p[i] * win(wins, alone(n, i), p) / own for i in range(n)]
    return [0] + told_mixture(p)


class Words:
    """One object of the document: it answers calls as helper.laid_out takes them."""

    def __init__(self):
        self.n = 1
        self.wins = [0]

    def are_weights(self, weights):
        return len(weights) == self.n and all(0 <= weight <= 1000 for weight in weights) and any(weights)

    def are_strategies(self, strategies):
        return strategies in sets_of(self.n)

    def answer(self, call):
        number, rest = call[0], call[1:]
        if number in (VALUE, REPLIES, STABLE, BEARS):
            if not all(self.are_weights(weights) for weights in rest):
                return [-1]
            return self.asked_of_mixtures(number, *[shares(weights) for weights in rest])
        if number == GROW:
            if not 0 <= rest[0] <= 5 or not self.are_weights(rest[1]):
                return [-1]
            return grow(self.n, self.wins, rest[0], shares(rest[1]))
        if number == SUPPORT:
            return support(self.n, self.wins, rest[0]) if self.are_strategies(rest[0]) else [-1]
        if number in (CONTEST, SHIFT, SCALE, SUB):
            return self.changed(number, *rest)
        if number == TOLD:
            return [self.n] + self.wins
        return {SURVIVORS: survivors, EQUILIBRIA: equilibria, STABLES: stables}[number](self.n, self.wins)

    def asked_of_mixtures(self, number, p, q=None):
        if number == VALUE:
            return [0] + told(win(self.wins, p, q))
        if number == REPLIES:
            return replies(self.n, self.wins, p)
        if number == STABLE:
            return [int(stable(self.n, self.wins, p))]
        return bears(self.wins, p, q)

    def changed(self, number, first, second=None):
        n = self.n
        if number == CONTEST:
            if first not in (1, 2, 3, 4) or len(second) != first ** 2 or any(abs(win) > 1000 for win in second):
                return [-1]
            self.n, self.wins = first, second
            return [0]
        if number == SUB:
            if not self.are_strategies(first):
                return [-1]
            self.n, self.wins = len(first), [self.wins[i * n + j] for i in first for j in first]
            return [self.n]
        if number == SHIFT:
            if len(first) != n or any(abs(more) > 1000 for more in first):
                return [-1]
            grown = [win + first[place % n] for place, win in enumerate(self.wins)]
        else:
            if first not in range(1, 101):
                return [-1]
            grown = [win * first for win in self.wins]
        if max(grown) > 1000000 or min(grown) < -1000000:
            return [-9]
        self.wins = grown
        return [0]
