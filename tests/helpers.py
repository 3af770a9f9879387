"""What several tests use: runs to try, slow but plain ways to the same answers, and checks of kinds."""

import copy
import itertools
import random

# A square 0-1-2-3 with a chord, and two marks 4 and 5 of their own; it closes.
SQUARE = [(0, 1, 5, 0), (2, 1, 2, 1), (2, 3, -4, 0), (0, 3, -1, 2), (0, 2, 3, 3), (5, 4, 7, 1)]


def small_cases():
    """Every list of at most three runs between three marks, with rises 0 and 1 and hands 0 and 1,
    told without those that differ from another only in the order of runs."""
    kinds = [(one, other, rise, hand)
             for one, other in itertools.permutations(range(3), 2) for rise in (0, 1) for hand in (0, 1)]
    for many in range(4):
        for runs in itertools.combinations_with_replacement(kinds, many):
            yield 3, list(runs)


def large_cases():
    """Runs of many sizes, some closing and some not, the same ones each time."""
    source = random.Random(20)
    for size in (1, 2, 4, 7, 12, 15):
        for many in ((0,) if size == 1 else (0, 1, 3, 8, 20, 40, 50)):
            for spoiled in (0, 0, 1, 3):
                heights = [source.randrange(-10 ** 20, 10 ** 20) for mark in range(size)]
                runs = []
                for number in range(many):
                    one, other = source.sample(range(size), 2)
                    wrong = source.choice((-1, 1, 10 ** 25)) if number < spoiled else 0
                    runs.append((one, other, heights[other] - heights[one] + wrong, source.randrange(10)))
                source.shuffle(runs)
                yield size, runs


def some_struck(runs):
    """Lists of hands to strike, in no order, some of them without a run."""
    return [[], [0], [1], [1, 0], [9, 2, 5], [77, -3], list(range(10)), [run[3] for run in runs[::2]]]


def kept(runs, struck):
    """The pairs (number, run) of the runs whose hands aren't struck."""
    return [(number, run) for number, run in enumerate(runs) if run[3] not in struck]


def hang_together(size, runs, struck=()):
    """A table of which marks hang together, found by trying every mark between."""
    table = [[one == other for other in range(size)] for one in range(size)]
    for number, (one, other, rise, hand) in kept(runs, struck):
        table[one][other] = table[other][one] = True
    for between in range(size):
        for one in range(size):
            for other in range(size):
                if table[one][between] and table[between][other]:
                    table[one][other] = True
    return table


def every_line(runs, struck, start):
    """Every triple (line, end, rise) from a mark, by trying each run at each place."""
    waiting = [((), start, 0)]
    while waiting:
        line, mark, total = waiting.pop()
        yield line, mark, total
        for number, (one, other, rise, hand) in kept(runs, struck):
            if number not in line and mark == one:
                waiting.append((line + (number,), other, total + rise))
            if number not in line and mark == other:
                waiting.append((line + (number,), one, total - rise))


def has_open_ring(size, runs, struck=()):
    """True where some open ring is among all lines; only for few runs."""
    return any(line and end == start and rise != 0
               for start in range(size) for line, end, rise in every_line(runs, struck, start))


def do_close(size, runs, struck=()):
    """True where the runs close, by giving heights along until nothing is left to give."""
    height = {}
    for start in range(size):
        height.setdefault(start, 0)
        for turn in range(size):
            for number, (one, other, rise, hand) in kept(runs, struck):
                if one in height:
                    height.setdefault(other, height[one] + rise)
                if other in height:
                    height.setdefault(one, height[other] - rise)
    return all(height[other] - height[one] == rise for number, (one, other, rise, hand) in kept(runs, struck))


def spoil(value):
    """Changes every list that is in a value, as a careless caller might."""
    if isinstance(value, (list, tuple)):
        for part in value:
            spoil(part)
    if isinstance(value, list):
        value.append("spoiled")
        value.reverse()


def has_truth(value):
    """True where True or False stands somewhere in lists and tuples."""
    if isinstance(value, (list, tuple)):
        return any(has_truth(part) for part in value)
    return isinstance(value, bool)


def check_call(case, function, *arguments):
    """What a call tells, behind checks that it changes nothing handed in, keeps none of it, tells new
    lists, and tells the same again."""
    given = copy.deepcopy(arguments)
    told = function(*given)
    case.assertEqual(given, arguments)
    answer = copy.deepcopy(told)
    spoil(told)
    case.assertEqual(given, arguments)
    spoil(given)
    case.assertEqual(function(*copy.deepcopy(arguments)), answer)
    if not isinstance(answer, bool):
        case.assertFalse(has_truth(answer))
    return answer
