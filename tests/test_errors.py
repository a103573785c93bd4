"""Promise 1: the classes of errors."""

import inspect
import unittest

from blockbooks import errors
from blockbooks.errors import BlockError

NAMES = [
    "InvalidBase", "InvalidName", "InvalidBlocks", "InvalidNumber", "InvalidLevel", "InvalidPlace",
    "InvalidArea", "InvalidRest", "UnlikeBases", "TooWide", "NothingToUndo", "Unreadable",
]


class Errors(unittest.TestCase):

    def test_each_class_is_there_and_no_other_one(self):
        found = [name for name, item in vars(errors).items() if inspect.isclass(item)]
        self.assertEqual(sorted(found), sorted(NAMES + ["BlockError"]))

    def test_each_class_is_defined_in_this_file(self):
        for name in NAMES + ["BlockError"]:
            self.assertEqual(getattr(errors, name).__module__, "blockbooks.errors")

    def test_block_error_is_a_direct_subclass_of_value_error(self):
        self.assertEqual(BlockError.__bases__, (ValueError,))

    def test_each_other_class_is_a_direct_subclass_of_block_error(self):
        for name in NAMES:
            self.assertEqual(getattr(errors, name).__bases__, (BlockError,), name)

    def test_none_is_a_subclass_of_another_one(self):
        for name in NAMES:
            for other in NAMES:
                answer = issubclass(getattr(errors, name), getattr(errors, other))
                self.assertEqual(answer, name == other, (name, other))

    def test_value_is_the_thing_itself(self):
        things = [0, 7, -10 ** 30, "", "x", None, (), (3, 4), ((1, 2), (3, 4)), [], [1, [2]], {"a": 1},
                  b"x", True, object(), ValueError("y"), BlockError(1), len, BlockError]
        for name in NAMES + ["BlockError"]:
            kind = getattr(errors, name)
            for thing in things:
                self.assertIs(kind(thing).value, thing)
                self.assertIs(kind(value=thing).value, thing)

    def test_value_is_there_when_the_error_is_caught(self):
        for name in NAMES + ["BlockError"]:
            thing = [name]
            with self.assertRaises(ValueError) as caught:
                raise getattr(errors, name)(thing)
            self.assertIs(caught.exception.value, thing)

    def test_value_is_kept_and_not_copied(self):
        thing = [1]
        error = errors.InvalidArea(thing)
        thing.append(2)
        self.assertEqual(error.value, [1, 2])

    def test_message_is_the_same_by_position_and_by_name(self):
        for name in NAMES + ["BlockError"]:
            kind = getattr(errors, name)
            self.assertEqual(str(kind((3, 4))), str(kind(value=(3, 4))))

    def test_one_argument_is_needed(self):
        for name in NAMES + ["BlockError"]:
            kind = getattr(errors, name)
            self.assertRaises(TypeError, kind)
            self.assertRaises(TypeError, kind, 1, 2)


if __name__ == "__main__":
    unittest.main()
