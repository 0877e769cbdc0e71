import unittest

from leafpress.errors import NoBook, NoDrawing, NoFace, NoLeaf, NoNode, NoPart, NoRule, NoSheet, PressError

CLASSES = [NoFace, NoBook, NoRule, NoSheet, NoDrawing, NoNode, NoPart, NoLeaf]


class Errors(unittest.TestCase):
    def test_press_error_stands_straight_under_value_error(self):
        self.assertEqual(PressError.__bases__, (ValueError,))

    def test_each_stands_straight_under_press_error(self):
        for one in CLASSES:
            with self.subTest(one.__name__):
                self.assertEqual(one.__bases__, (PressError,))
                self.assertTrue(issubclass(one, ValueError))

    def test_none_is_another(self):
        for one in CLASSES:
            others = [other for other in CLASSES if issubclass(one, other)]
            self.assertEqual(others, [one])

    def test_names(self):
        self.assertEqual(
            [one.__name__ for one in CLASSES + [PressError]],
            ["NoFace", "NoBook", "NoRule", "NoSheet", "NoDrawing", "NoNode", "NoPart", "NoLeaf", "PressError"],
        )

    def test_each_is_raised_and_taken(self):
        for one in CLASSES:
            for taken in (one, PressError, ValueError):
                with self.assertRaises(taken):
                    raise one("words")


if __name__ == "__main__":
    unittest.main()
