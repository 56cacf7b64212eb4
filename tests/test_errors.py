import unittest

from support import PlayCase

from neverpenned import errors

FIELDS = {
    "BadNumber": "number", "TooMany": "most", "TooMuch": "most", "BadCell": "cell", "BadName": "name",
    "EmptyBox": None, "NoCells": None, "BadText": "line", "BadEdge": "edge", "NotBoundary": "edge",
    "NotClosed": "at", "BadLetter": "at", "NotJoined": None, "NotSame": None, "NoRegion": "cell",
    "NotOpen": "cell", "BadStreams": "at", "OnShore": "cell", "NotAllowed": "cell", "Occupied": "cell",
    "AlreadyStruck": "cell", "NothingToUndo": None, "NotHeld": "level", "NotPrepared": "half", "TooNear": "cell",
    "Outside": "cell", "BadStep": "cell", "WrongPhase": "phase", "OffBoard": "cell", "TooFar": "cell",
    "NoNode": "node", "BadDeed": "line",
}


class ErrorsTest(PlayCase):
    def test_the_base_class_is_a_value_error(self):
        self.assertEqual(errors.PlayError.__bases__, (ValueError,))

    def test_each_class_is_derived_directly_from_the_base_class(self):
        for name in FIELDS:
            self.assertEqual(getattr(errors, name).__bases__, (errors.PlayError,), name)

    def test_there_is_no_other_class(self):
        classes = [name for name in vars(errors) if isinstance(getattr(errors, name), type)]
        self.assertEqual(sorted(classes), sorted([*FIELDS, "PlayError"]))

    def test_each_argument_is_kept_in_its_field(self):
        for name in FIELDS:
            field = FIELDS[name]
            if field is not None:
                for value in (7, -10 ** 30, (3, -4), ((0, 0), (1, 0)), "strike"):
                    error = getattr(errors, name)(value)
                    self.assertEqual(vars(error), {field: value}, name)

    def test_the_argument_may_be_named(self):
        for name in FIELDS:
            if FIELDS[name] is not None:
                error = getattr(errors, name)(**{FIELDS[name]: 5})
                self.assertEqual(vars(error), {FIELDS[name]: 5}, name)

    def test_an_error_without_a_field_takes_no_argument(self):
        for name in FIELDS:
            if FIELDS[name] is None:
                self.assertEqual(vars(getattr(errors, name)()), {}, name)

    def test_an_error_with_a_field_needs_its_argument(self):
        for name in FIELDS:
            if FIELDS[name] is not None:
                with self.assertRaises(TypeError):
                    getattr(errors, name)()

    def test_each_error_is_caught_as_the_base_class(self):
        for name in FIELDS:
            arguments = () if FIELDS[name] is None else (1,)
            with self.assertRaises(errors.PlayError) as caught:
                raise getattr(errors, name)(*arguments)
            self.assertIs(type(caught.exception), getattr(errors, name))


if __name__ == "__main__":
    unittest.main()
