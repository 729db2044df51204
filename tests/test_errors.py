import unittest

from panehouse import errors

NAMES = ["NoShare", "NoBox", "NoText", "NoRule", "NoName", "NoPlace", "NoPage", "NoChange", "NoUndo", "NoRow"]


class Errors(unittest.TestCase):
    def test_pane_error_is_straight_under_value_error(self):
        self.assertEqual(errors.PaneError.__bases__, (ValueError,))

    def test_each_refusal_is_straight_under_pane_error(self):
        for name in NAMES:
            with self.subTest(name):
                self.assertEqual(getattr(errors, name).__bases__, (errors.PaneError,))

    def test_there_are_no_other_classes(self):
        held = [name for name, thing in vars(errors).items() if isinstance(thing, type)]
        self.assertEqual(held, ["PaneError"] + NAMES)

    def test_each_can_be_raised_with_words(self):
        for name in NAMES:
            with self.subTest(name):
                with self.assertRaises(errors.PaneError) as caught:
                    raise getattr(errors, name)("why")
                self.assertEqual(str(caught.exception), "why")
