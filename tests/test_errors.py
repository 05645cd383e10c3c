"""Point 2 and both halves of the interface of owncells/errors.py."""

import unittest

from owncells import errors

ONE_FIELD = {
    "BadProgram": "place", "BadLot": "value", "BadRound": "value", "BadNumber": "value",
    "BadBox": "value", "BadForm": "value", "BadDealing": "place", "BadPaper": "word",
    "BadPlan": "place", "BadChoice": "value", "BadRow": "value", "BadSeen": "place",
    "BadReference": "place",
}

ANY = (None, True, 0, -4, 10 ** 60, "", "form", b"x", (), (1, 0), [], [[1]], {"a": 1}, object())


class TestErrors(unittest.TestCase):
    def test_all_are_direct_subclasses_of_nest_error_alone(self):
        for name in list(ONE_FIELD) + ["BadText", "NothingLeft"]:
            self.assertEqual(getattr(errors, name).__bases__, (errors.NestError,), name)

    def test_nest_error_is_made_as_any_value_error(self):
        self.assertEqual(errors.NestError.__bases__, (ValueError,))
        for args in ((), ("a",), ("a", 2), ([],)):
            made = errors.NestError(*args)
            self.assertIsInstance(made, ValueError)
            self.assertEqual(made.args, args)
            self.assertEqual(str(made), str(ValueError(*args)))

    def test_each_keeps_its_field_by_place_and_by_name(self):
        for name, field in ONE_FIELD.items():
            made = getattr(errors, name)
            for thing in ANY:
                self.assertIs(getattr(made(thing), field), thing)
                self.assertIs(getattr(made(**{field: thing}), field), thing)

    def test_each_takes_just_its_field(self):
        for name in list(ONE_FIELD) + ["TooGreat"]:
            made = getattr(errors, name)
            self.assertRaises(TypeError, made)
            self.assertRaises(TypeError, made, 1, 2)
            self.assertRaises(TypeError, made, other=1)

    def test_objects_keep_their_own_fields(self):
        one, other = errors.BadLot(1), errors.BadLot(2)
        self.assertEqual((one.value, other.value), (1, 2))

    def test_bad_text_keeps_line_and_word(self):
        for line in ANY:
            for word in ANY:
                for made in (errors.BadText(line, word), errors.BadText(line, word=word),
                             errors.BadText(word=word, line=line)):
                    self.assertIs(made.line, line)
                    self.assertIs(made.word, word)
        self.assertRaises(TypeError, errors.BadText, 1)

    def test_nothing_left_is_made_without_arguments(self):
        self.assertIsInstance(errors.NothingLeft(), errors.NestError)
        self.assertRaises(TypeError, errors.NothingLeft, 1)

    def test_too_great_is_an_overflow_error(self):
        self.assertEqual(errors.TooGreat.__bases__, (OverflowError,))
        self.assertNotIsInstance(errors.TooGreat(4000), errors.NestError)
        for thing in ANY:
            self.assertIs(errors.TooGreat(thing).most, thing)
            self.assertIs(errors.TooGreat(most=thing).most, thing)

    def test_each_is_caught_as_what_it_is(self):
        for name in ONE_FIELD:
            with self.assertRaises(errors.NestError):
                raise getattr(errors, name)(())
        with self.assertRaises(ValueError):
            raise errors.BadText(None, None)
        with self.assertRaises(OverflowError):
            raise errors.TooGreat(4)

    def test_each_is_defined_in_this_file(self):
        for name in list(ONE_FIELD) + ["NestError", "BadText", "NothingLeft", "TooGreat"]:
            self.assertEqual(getattr(errors, name).__module__, "owncells.errors")


if __name__ == "__main__":
    unittest.main()
