import unittest

from fenlevel.errors import NoMark
from fenlevel.papers import none_paper
from fenlevel.stand import (by_numbers, groups_by_names, hands_by_names, last_stand, marks_of, next_stand,
                            paper_by_names, reading_by_names, turns_of)
from tests.helpers import check_call

# Mark b settled once, ahead of mark c, and a twice, behind it.
STANDS = (("b", 1), ("a", 1), ("b", 2), ("c", 1), ("a", 2), ("a", 3))
HANDS = ("zed", "ann", "kim")
ROWS = ((2, "a", 1, "b", 2, 5, "ann"), (3, "b", 2, "a", 3, -7, "zed"), (9, "c", 1, "a", 3, 0, "ann"))


class Stands(unittest.TestCase):
    def test_marks_in_the_order_in_which_they_came(self):
        self.assertEqual(check_call(self, marks_of, STANDS), ["b", "a", "c"])
        self.assertEqual(check_call(self, marks_of, ()), [])

    def test_turns(self):
        self.assertEqual([turns_of(STANDS, name) for name in ("a", "b", "c", "d", "")], [3, 2, 1, 0, 0])
        self.assertEqual(last_stand(STANDS, "a"), ("a", 3))
        self.assertEqual(last_stand(STANDS, "c"), ("c", 1))
        self.assertEqual(next_stand(STANDS, "a"), ("a", 4))
        self.assertEqual(next_stand(STANDS, "d"), ("d", 1))
        self.assertEqual(next_stand((), "d"), ("d", 1))

    def test_no_mark(self):
        for stands, name in [(STANDS, "d"), (STANDS, ""), ((), "a"), (STANDS, "A")]:
            with self.assertRaises(NoMark):
                last_stand(stands, name)


class ToldByNames(unittest.TestCase):
    def test_runs_by_numbers(self):
        self.assertEqual(check_call(self, by_numbers, STANDS, HANDS, ROWS),
                         [(1, 2, 5, 1), (2, 5, -7, 0), (3, 5, 0, 1)])
        self.assertEqual(check_call(self, by_numbers, (), (), ()), [])

    def test_hands(self):
        self.assertEqual(check_call(self, hands_by_names, HANDS, [0, 2]), ["zed", "kim"])
        self.assertEqual(check_call(self, hands_by_names, HANDS, []), [])

    def test_readings(self):
        self.assertEqual(check_call(self, reading_by_names, HANDS, ([0, 1], [0, 4, -3])),
                         (["zed", "ann"], [0, 4, -3]))
        self.assertEqual(check_call(self, reading_by_names, (), ([], [])), ([], []))

    def test_papers(self):
        paper = ("line", 1, (0, 1), ((0, ("line", 5, (), ())), (1, ("ring", 3, (2,), ((1, ("line", 0, (), ())),)))))
        self.assertEqual(check_call(self, paper_by_names, STANDS, HANDS, ROWS, paper), (
            "line", ("a", 1), (2, 3), (("zed", ("line", ("a", 3), (), ())),
                                       ("ann", ("ring", ("c", 1), (9,), (("ann", ("line", ("b", 1), (), ())),))))))

    def test_the_rest_of_a_paper_goes_as_the_hands_came(self):
        rows = ((1, "a", 1, "b", 1, 5, "ann"), (2, "a", 1, "b", 1, 6, "zed"), (4, "a", 1, "b", 1, 7, "kim"))
        paper = none_paper(6, by_numbers(STANDS, HANDS, rows), 1)
        kind, mark, line, rest = paper_by_names(STANDS, HANDS, rows, paper)
        self.assertEqual(kind, "ring")
        self.assertIn(mark, STANDS)
        names = [hand for hand, inner in rest]
        self.assertEqual(names, [hand for hand in HANDS if hand in names])
        self.assertEqual(len(names), 2)

    def test_groups(self):
        self.assertEqual(check_call(self, groups_by_names, STANDS, [[0], [1], [2, 5], [3], [4]]), [["b", "a"], ["c"]])
        self.assertEqual(check_call(self, groups_by_names, STANDS, [[0, 1, 4], [2], [3, 5]]), [["b"], ["a", "c"]])
        self.assertEqual(check_call(self, groups_by_names, (), []), [])

    def test_groups_go_by_their_first_marks_not_by_their_first_stands(self):
        stands = (("a", 1), ("b", 1), ("a", 2))
        self.assertEqual(groups_by_names(stands, [[0], [1], [2]]), [["a"], ["b"]])
        self.assertEqual(groups_by_names(stands, [[0], [1, 2]]), [["a", "b"]])
        self.assertEqual(groups_by_names(stands, [[0, 1], [2]]), [["a"], ["b"]])


if __name__ == "__main__":
    unittest.main()
