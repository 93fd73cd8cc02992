"""How the tests lay out calls, and how they take the answers apart."""

from contestways.contest import answers

LEAST = -9223372036854775808
GREATEST = 9223372036854775807

(CONTEST, TOLD, VALUE, REPLIES, SURVIVORS, SUPPORT, EQUILIBRIA,
 STABLE, STABLES, BEARS, GROW, SHIFT, SCALE, SUB) = range(14)


class Untouchable(list):
    """A list that fails as soon as something tries to change it."""

    def refuse(self, *arguments, **keywords):
        raise AssertionError("the list that was handed in is being changed")

    append = clear = extend = insert = pop = remove = reverse = sort = refuse
    __setitem__ = __delitem__ = __iadd__ = __imul__ = refuse


def laid_out(calls):
    """One list of all calls. A call is a tuple: its number, its whole numbers, its lists."""
    line = []
    for call in calls:
        for part in call:
            if isinstance(part, list):
                line.append(len(part))
                line.extend(part)
            else:
                line.append(part)
    return line


def taken_apart(told):
    """The answers, a list each."""
    parts = []
    at = 0
    while at < len(told):
        size = told[at]
        part = told[at + 1:at + 1 + size]
        if size < 1 or len(part) != size:
            raise AssertionError(f"no answer of {size} numbers stands at {at} in {told}")
        parts.append(part)
        at += 1 + size
    return parts


def ask(*calls):
    """What each of the calls is answered."""
    line = laid_out(calls)
    told = answers(Untouchable(line))
    if type(told) is not list or any(type(number) is not int for number in told):
        raise AssertionError(f"not a list of whole numbers: {told}")
    parts = taken_apart(told)
    if len(parts) != len(calls):
        raise AssertionError(f"{len(calls)} calls, but {len(parts)} answers")
    return parts


def ask_of(contest, *calls):
    """What the calls are answered when the contest, (n, wins), has been told first."""
    parts = ask((CONTEST,) + contest, *calls)
    if parts[0] != [0]:
        raise AssertionError(f"the contest {contest} was refused: {parts[0]}")
    return parts[1:]


def one_of(contest, *call):
    """What one call is answered when the contest, (n, wins), has been told first."""
    return ask_of(contest, call)[0]
