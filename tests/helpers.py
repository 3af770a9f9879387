"""What several tests use: runs to try, slow but plain ways to the same answers, and checks of kinds."""

import copy
import itertools
import random
import re

from fenlevel.errors import FenError

# A square 0-1-2-3 with a chord, and two marks 4 and 5 of their own; it closes.
SQUARE = [(0, 1, 5, 0), (2, 1, 2, 1), (2, 3, -4, 0), (0, 3, -1, 2), (0, 2, 3, 3), (5, 4, 7, 1)]


def small_cases():
    """Every list of at most three runs between three marks, with rises 0 and 1 and hands 0 and 1,
    told without those that differ from another only in the order of runs."""
    kinds = [(one, other, rise, hand)
             for one, other in itertools.permutations(range(3), 2) for rise in (0, 1) for hand in (0, 1)]
    for many in range(4):
        for runs in itertools.combinations_with_replacement(kinds, many):
            yield 3, list(runs)


def large_cases():
    """Runs of many sizes, some closing and some not, the same ones each time."""
    source = random.Random(20)
    for size in (1, 2, 4, 7, 12, 15):
        for many in ((0,) if size == 1 else (0, 1, 3, 8, 20, 40, 50)):
            for spoiled in (0, 0, 1, 3):
                heights = [source.randrange(-10 ** 20, 10 ** 20) for mark in range(size)]
                runs = []
                for number in range(many):
                    one, other = source.sample(range(size), 2)
                    wrong = source.choice((-1, 1, 10 ** 25)) if number < spoiled else 0
                    runs.append((one, other, heights[other] - heights[one] + wrong, source.randrange(10)))
                source.shuffle(runs)
                yield size, runs


def some_struck(runs):
    """Lists of hands to strike, in no order, some of them without a run."""
    return [[], [0], [1], [1, 0], [9, 2, 5], [77, -3], list(range(10)), [run[3] for run in runs[::2]]]


def kept(runs, struck):
    """The pairs (number, run) of the runs whose hands aren't struck."""
    return [(number, run) for number, run in enumerate(runs) if run[3] not in struck]


def hang_together(size, runs, struck=()):
    """A table of which marks hang together, found by trying every mark between."""
    table = [[one == other for other in range(size)] for one in range(size)]
    for number, (one, other, rise, hand) in kept(runs, struck):
        table[one][other] = table[other][one] = True
    for between in range(size):
        for one in range(size):
            for other in range(size):
                if table[one][between] and table[between][other]:
                    table[one][other] = True
    return table


def every_line(runs, struck, start):
    """Every triple (line, end, rise) from a mark, by trying each run at each place."""
    waiting = [((), start, 0)]
    while waiting:
        line, mark, total = waiting.pop()
        yield line, mark, total
        for number, (one, other, rise, hand) in kept(runs, struck):
            if number not in line and mark == one:
                waiting.append((line + (number,), other, total + rise))
            if number not in line and mark == other:
                waiting.append((line + (number,), one, total - rise))


def has_open_ring(size, runs, struck=()):
    """True where some open ring is among all lines; only for few runs."""
    return any(line and end == start and rise != 0
               for start in range(size) for line, end, rise in every_line(runs, struck, start))


def plain_heights(size, runs, struck=()):
    """A height for each mark by giving heights along until nothing is left to give; all runs hold if any
    heights do."""
    height = {}
    for start in range(size):
        height.setdefault(start, 0)
        known = 0
        while known < len(height):
            known = len(height)
            for number, (one, other, rise, hand) in kept(runs, struck):
                if one in height:
                    height.setdefault(other, height[one] + rise)
                if other in height:
                    height.setdefault(one, height[other] - rise)
    return [height[mark] for mark in range(size)]


def do_close(size, runs, struck=()):
    """True where the runs close, by heights that were given along."""
    height = plain_heights(size, runs, struck)
    return all(height[other] - height[one] == rise for number, (one, other, rise, hand) in kept(runs, struck))


def hand_cases():
    """Pairs (size, runs) with ten hands and fewer, some of them false in all they tell, some by a second
    truth of their own, so that much and little is sure; the same ones each time."""
    source = random.Random(7)
    for size, many, hands in [(1, 0, 1), (2, 4, 4), (2, 9, 6), (3, 6, 3), (3, 14, 7), (4, 12, 5), (5, 20, 8), (6, 5, 4),
                              (6, 30, 10), (12, 40, 10)]:
        for false in (0, 1, 2, 3, 4):
            for second in (False, True):
                truths = [[source.randrange(-9, 10) for mark in range(size)] for turn in range(2)]
                runs = []
                for number in range(many):
                    one, other = source.sample(range(size), 2)
                    hand = number % hands
                    heights = truths[1 if hand < false else 0]
                    noise = source.randrange(3) if hand < false and not second else 0
                    runs.append((one, other, heights[other] - heights[one] + noise, hand))
                source.shuffle(runs)
                yield size, runs


def worst_cases():
    """Triples (size, runs, answer) of 40 runs of ten hands, in a ring of ten marks with four hands at each
    step: what is told from mark 0 to mark 5 with three hands struck."""
    steps = [(mark, (mark + 1) % 10, (mark + turn) % 10) for turn in range(4) for mark in range(10)]
    yield 10, [(one, other, 1, hand) for one, other, hand in steps], ("none",)
    yield 10, [(one, other, 1 if one < 9 else -9, hand) for one, other, hand in steps], ("sure", 5)
    lines = [(mark, mark + 1, 10 ** 30, (3 * mark + turn) % 10) for turn in range(4) for mark in range(10)]
    yield 11, lines, ("sure", 5 * 10 ** 30)
    yield 11, lines[1:] + [(0, 10, 0, 6)], ("open",)
    yield 12, [(0, 5, hand, hand) for hand in range(10)] * 4, ("none",)
    yield 12, [(0, 5, hand // 3, hand) for hand in range(10)] * 4, ("none",)
    yield 12, [(0, 5, max(hand, 3), hand) for hand in range(10)] * 4, ("none",)
    yield 12, [(0, 5, min(hand, 4), hand) for hand in range(10)] * 4, ("none",)
    yield 12, [(0, 5, min(hand, 3), hand) for hand in range(10)] * 4, ("sure", 3)


def every_list(runs, many):
    """Every growing list of at most so many of the runs' hands, the shortest first."""
    hands = sorted({run[3] for run in runs})
    return [list(chosen) for length in range(many + 1) for chosen in itertools.combinations(hands, length)]


def plain_false_sets(size, runs, many):
    """The false sets, by trying every growing list."""
    return [struck for struck in every_list(runs, many) if do_close(size, runs, struck)]


def plain_views(size, runs, many):
    """For each false set the pair of a table of which marks hang together and of heights."""
    return [(hang_together(size, runs, struck), plain_heights(size, runs, struck))
            for struck in plain_false_sets(size, runs, many)]


def plain_told(views, one, other):
    """("none",), ("sure", rise) or ("open",), by looking at every false set."""
    if not views:
        return ("none",)
    rises = {heights[other] - heights[one] for table, heights in views}
    if len(rises) == 1 and all(table[one][other] for table, heights in views):
        return "sure", rises.pop()
    return ("open",)


def plain_parting(size, runs, many, pairs):
    """For each pair of marks what parting tells, by trying every growing list."""
    found = {pair: None for pair in pairs}
    for struck in every_list(runs, many):
        table = hang_together(size, runs, struck)
        for one, other in pairs:
            if found[one, other] is None and not table[one][other]:
                found[one, other] = struck
    return found


def with_rises(runs, rises):
    """The runs as they come to tell these rises."""
    return [(one, other, rise, hand) for (one, other, old, hand), rise in zip(runs, rises, strict=True)]


def spoil(value):
    """Changes every list that is in a value, as a careless caller might."""
    if isinstance(value, (list, tuple)):
        for part in value:
            spoil(part)
    if isinstance(value, list):
        value.append("spoiled")
        value.reverse()


def every_thing(value):
    """A value and all that is within its lists and tuples."""
    yield value
    if isinstance(value, (list, tuple)):
        for part in value:
            yield from every_thing(part)


def check_call(case, function, *arguments):
    """What a call tells, behind checks that it changes nothing handed in, keeps none of it, tells new
    lists, and tells the same again."""
    given = copy.deepcopy(arguments)
    told = function(*given)
    case.assertEqual(given, arguments)
    lists = [id(part) for part in every_thing(told) if isinstance(part, list)]
    case.assertEqual(len(set(lists)), len(lists))
    answer = copy.deepcopy(told)
    spoil(told)
    case.assertEqual(given, arguments)
    spoil(given)
    case.assertEqual(function(*copy.deepcopy(arguments)), answer)
    if not isinstance(answer, bool):
        case.assertFalse(any(isinstance(part, bool) for part in every_thing(answer)))
    return answer


def plain_book(deeds):
    """What a fen holds behind deeds of which none is refused, each done as the document tells it."""
    book = {"stands": [], "hands": [], "aside": set(), "runs": {}, "entered": 0, "allowed": 0}
    for word, *rest in deeds:
        if word in ("mark", "settle"):
            book["stands"].append((rest[0], 1 + len(plain_turns(book, rest[0]))))
        elif word == "hand":
            book["hands"].append(rest[0])
        elif word == "run":
            one, other, rise, hand = rest
            book["entered"] += 1
            book["runs"][book["entered"]] = [one, max(plain_turns(book, one)), other, max(plain_turns(book, other)),
                                             rise, hand]
        elif word == "strike":
            del book["runs"][rest[0]]
        elif word == "mend":
            book["runs"][rest[0]][4] = rest[1]
        elif word == "allow":
            book["allowed"] = rest[0]
        else:
            book["aside"] ^= {rest[0]}
    return book


def plain_turns(book, name):
    """The turns of a mark's stands."""
    return [turn for each, turn in book["stands"] if each == name]


def plain_refusal(book, row):
    """The name of the class that refuses a deed, or None, by the document's table."""
    word, *rest = row
    name = rest[0]
    named = isinstance(name, str) and re.fullmatch("[a-z]{1,8}", name)
    full = len(book["stands"]) >= 12
    if word == "mark":
        reasons = [("BadName", not named), ("Taken", plain_turns(book, name)), ("Full", full)]
    elif word == "hand":
        reasons = [("BadName", not named), ("Taken", name in book["hands"]), ("Full", len(book["hands"]) >= 10)]
    elif word == "run":
        one, other, rise, hand = rest
        reasons = [("NoMark", not plain_turns(book, one)), ("NoMark", not plain_turns(book, other)),
                   ("Same", one == other), ("NoHand", hand not in book["hands"]),
                   ("BadRise", not -10 ** 9 <= rise <= 10 ** 9), ("Full", len(book["runs"]) >= 40)]
    elif word == "strike":
        reasons = [("NoRun", name not in book["runs"])]
    elif word == "mend":
        reasons = [("NoRun", name not in book["runs"]), ("BadRise", not -10 ** 9 <= rest[1] <= 10 ** 9)]
    elif word == "settle":
        reasons = [("NoMark", not plain_turns(book, name)), ("Full", full)]
    elif word == "aside":
        reasons = [("NoHand", name not in book["hands"]), ("Aside", name in book["aside"])]
    elif word == "heed":
        reasons = [("NoHand", name not in book["hands"]), ("NotAside", name not in book["aside"])]
    else:
        reasons = [("BadNumber", name not in (0, 1, 2, 3))]
    return next((reason for reason, so in reasons if so), None)


def plain_runs(book):
    """The runs that count, by numbers."""
    return [(book["stands"].index((one, turn)), book["stands"].index((other, end)), rise, book["hands"].index(hand))
            for one, turn, other, end, rise, hand in book["runs"].values() if hand not in book["aside"]]


def plain_place(book, name):
    """The number of a mark's last stand."""
    return book["stands"].index((name, max(plain_turns(book, name))))


def refused(function, *arguments):
    """What a call tells, or the class that refuses it."""
    try:
        return function(*arguments)
    except FenError as error:
        return type(error)


def all_asked(fen):
    """All that can be asked of a fen, refusals too."""
    names = fen.marks() + ["nomark"]
    answers = [fen.deeds(), fen.marks(), fen.hands(), fen.asides(), fen.stands(), fen.allowed(), fen.runs(),
               fen.counting(), fen.false_sets(), fen.least(), fen.groups(), [refused(fen.sank, name) for name in names]]
    for ask in (fen.height, fen.paper, fen.readings, fen.parting, fen.foe):
        answers.append([refused(ask, one, other) for one in names for other in names])
    return answers


def to_do_again(fen):
    """The deeds that a fen can do again, the next one first."""
    twin = fen.twin()
    kept = len(twin.deeds())
    while refused(twin.again) is None:
        pass
    return twin.deeds()[kept:]


def drawn_deed(source, book):
    """A deed, as chance has it: mostly one that fits, sometimes one that is refused."""
    marks = [name for name, turn in book["stands"] if turn == 1] or ["none"]
    hands = book["hands"] or ["none"]
    if source.randrange(12) == 0:
        marks, hands = ["a", "nomark", "B", ""], ["h", "nohand", "", "a b"]
    rise = source.choice((0, 0, 0, 1, 2, 10 ** 9, -10 ** 9, 10 ** 9 + 1, -10 ** 9 - 1) if source.randrange(3) == 0
                         else (0, 1))
    number = source.randrange(-1, book["entered"] + 2)
    word = source.choice(["mark"] * 3 + ["hand"] * 3 + ["run"] * 9 +
                         ["strike", "mend", "settle", "aside", "heed", "allow", "allow"])
    return {"mark": ("mark", source.choice("abcdefgh" + "ABC") * source.choice((1, 1, 1, 8, 9))),
            "hand": ("hand", source.choice("hijklmnopq" + "1") * source.choice((1, 1, 1, 8, 9))),
            "run": ("run", source.choice(marks), source.choice(marks), rise, source.choice(hands)),
            "strike": ("strike", number), "mend": ("mend", number, rise), "settle": ("settle", source.choice(marks)),
            "aside": ("aside", source.choice(hands)), "heed": ("heed", source.choice(hands)),
            "allow": ("allow", source.randrange(-1, 5))}[word]


def drawn_deeds(source, many):
    """So many deeds of which none is refused, as chance has it."""
    deeds = []
    while len(deeds) < many:
        book = plain_book(deeds)
        row = drawn_deed(source, book)
        if plain_refusal(book, row) is None:
            deeds.append(row)
    return deeds
