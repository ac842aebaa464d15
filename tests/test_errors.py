"""Point 2: the refusals; the interface's boardheld/errors.py."""

import inspect
import unittest

from boardheld import errors

BARE = ("NoImage", "NoWord", "Taken", "TooMany", "NoMark", "NoFrame", "NoRow", "NoTurn", "NoLetter", "Waiting")
FIELDS = {"NoText": "at", "Barred": "why", "Marked": "address", "Unerased": "address"}
THINGS = {"NoText": 7, "Barred": "flash", "Marked": 511, "Unerased": 0}


class Errors(unittest.TestCase):
    def all_classes(self):
        return {name: thing for name, thing in vars(errors).items() if inspect.isclass(thing)}

    def test_which_there_are(self):
        self.assertEqual(set(self.all_classes()), {"BoardError", *BARE, *FIELDS})

    def test_base_is_right_under_value_error(self):
        self.assertEqual(errors.BoardError.__bases__, (ValueError,))

    def test_each_refusal_is_right_under_the_base(self):
        for name in (*BARE, *FIELDS):
            self.assertEqual(getattr(errors, name).__bases__, (errors.BoardError,), name)

    def test_none_is_under_another_one(self):
        refusals = [getattr(errors, name) for name in (*BARE, *FIELDS)]
        for one in refusals:
            for other in refusals:
                self.assertEqual(issubclass(one, other), one is other)

    def test_each_is_defined_in_this_file(self):
        for name, thing in self.all_classes().items():
            self.assertEqual(thing.__module__, "boardheld.errors", name)
            self.assertEqual(thing.__name__, name)

    def test_without_field_made_of_nothing(self):
        for name in ("BoardError", *BARE):
            refusal = getattr(errors, name)()
            self.assertEqual(vars(refusal), {}, name)

    def test_without_field_made_of_a_text(self):
        for name in ("BoardError", *BARE):
            refusal = getattr(errors, name)("why not")
            self.assertEqual(str(refusal), "why not", name)
            self.assertEqual(vars(refusal), {}, name)

    def test_field_by_place(self):
        for name, field in FIELDS.items():
            refusal = getattr(errors, name)(THINGS[name])
            self.assertEqual(vars(refusal), {field: THINGS[name]}, name)

    def test_field_by_name(self):
        for name, field in FIELDS.items():
            refusal = getattr(errors, name)(**{field: THINGS[name]})
            self.assertEqual(getattr(refusal, field), THINGS[name], name)

    def test_field_is_wanted(self):
        for name in FIELDS:
            with self.assertRaises(TypeError):
                getattr(errors, name)()

    def test_caught_by_the_base(self):
        for name in (*BARE, *FIELDS):
            with self.assertRaises(errors.BoardError) as caught:
                if name in FIELDS:
                    raise getattr(errors, name)(THINGS[name])
                raise getattr(errors, name)
            self.assertIs(type(caught.exception), getattr(errors, name))


if __name__ == "__main__":
    unittest.main()
