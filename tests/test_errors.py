import unittest

from fenlevel import errors

NAMES = ["BadName", "Taken", "Full", "NoMark", "NoHand", "Same", "BadRise", "NoRun", "Aside", "NotAside",
         "BadNumber", "NothingLeft", "Steady", "NoDeed", "Known", "NoFen", "Settled", "NoPage"]


def made(name):
    kind = getattr(errors, name)
    return kind(3) if name == "NoPage" else kind("why")


class Errors(unittest.TestCase):
    def test_each_is_a_refusal_under_its_own_name(self):
        self.assertTrue(issubclass(errors.FenError, ValueError))
        for name in NAMES:
            with self.subTest(name):
                self.assertEqual(getattr(errors, name).__name__, name)
                self.assertIsInstance(made(name), errors.FenError)
                self.assertIsInstance(made(name), ValueError)

    def test_none_is_under_another(self):
        for name in NAMES:
            for other in NAMES:
                with self.subTest(name=name, other=other):
                    self.assertEqual(isinstance(made(name), getattr(errors, other)), name == other)

    def test_there_are_no_others(self):
        found = [name for name, value in vars(errors).items()
                 if isinstance(value, type) and issubclass(value, errors.FenError) and name != "FenError"]
        self.assertEqual(sorted(found), sorted(NAMES))

    def test_each_can_be_raised_without_words(self):
        for name in NAMES[:-1]:
            with self.subTest(name), self.assertRaises(errors.FenError):
                raise getattr(errors, name)()

    def test_a_page_bears_its_row(self):
        for row in (0, 3, 10 ** 30):
            self.assertEqual(errors.NoPage(row).row, row)
        with self.assertRaises(errors.NoPage) as caught:
            raise errors.NoPage(7)
        self.assertEqual(caught.exception.row, 7)


if __name__ == "__main__":
    unittest.main()
