import unittest

from chancegrain import errors

FIELDS = {
    "Wrong": "place", "NoText": "line", "TooMany": "most", "NotPlain": "step", "NotMild": "lot",
    "NotByLevels": "state", "Broken": "duty",
}
WITHOUT = ["NoQuotient", "Nothing", "NoCommand"]


class Errors(unittest.TestCase):
    def test_each_is_directly_under_chance_error(self):
        self.assertEqual(errors.ChanceError.__bases__, (ValueError,))
        for name in list(FIELDS) + WITHOUT:
            self.assertEqual(getattr(errors, name).__bases__, (errors.ChanceError,), name)

    def test_keeps_the_very_object(self):
        for name, field in FIELDS.items():
            for thing in [0, None, True, [1, [2]], {"a": []}, (1, 2), "x", errors.Nothing(), 10 ** 5000]:
                error = getattr(errors, name)(thing)
                self.assertIs(getattr(error, field), thing)
                self.assertEqual(list(vars(error)), [field])

    def test_takes_just_its_arguments(self):
        for name in FIELDS:
            self.assertRaises(TypeError, getattr(errors, name))
            self.assertRaises(TypeError, getattr(errors, name), 1, 2)
        for name in WITHOUT:
            self.assertEqual(vars(getattr(errors, name)()), {})
            self.assertRaises(TypeError, getattr(errors, name), 1)

    def test_is_caught_as_a_value_error(self):
        for name in FIELDS:
            with self.assertRaises(ValueError):
                raise getattr(errors, name)(1)
        for name in WITHOUT:
            with self.assertRaises(errors.ChanceError):
                raise getattr(errors, name)()
