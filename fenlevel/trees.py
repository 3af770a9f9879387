"""Trees of lines: from one mark to each that hangs together with it.

A tree is a dict: each mark that is reached, to the pair (height, line) of its
height over the tree's first mark and of a line from there to it. The lines of
one tree share their beginnings and part only once, so that two of them have
no run in common behind the place where they part.
"""


def steps_from(size, runs, struck):
    """For each mark the steps along runs, without those of the hands struck: (number, end, rise)."""
    steps = [[] for mark in range(size)]
    for number, (one, other, rise, hand) in enumerate(runs):
        if hand not in struck:
            steps[one].append((number, other, rise))
            steps[other].append((number, one, -rise))
    return steps


def tree_from(start, steps):
    """The tree that begins at a mark, by the steps that there are from each mark."""
    tree = {start: (0, ())}
    newest = [start]
    while newest:
        fresh = []
        for mark in newest:
            height, line = tree[mark]
            for number, end, rise in steps[mark]:
                if end not in tree:
                    tree[end] = (height + rise, line + (number,))
                    fresh.append(end)
        newest = fresh
    return tree


def trees_of(size, runs, struck):
    """A tree for each group of marks, from the group's least mark, in the order of these."""
    steps = steps_from(size, runs, struck)
    trees = []
    reached = {}
    for mark in range(size):
        if mark not in reached:
            tree = tree_from(mark, steps)
            reached.update(tree)
            trees.append(tree)
    return trees
