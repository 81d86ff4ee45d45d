"""Promise [3]: the seventeen errors, and their common one."""

import unittest

from helper import MovedTest, NO_INTEGERS, NO_TUPLES
from movedwhole import errors

NAMES = {
    "InvalidNumber": ("value",), "InvalidCluster": ("part", "place"), "InvalidWishes": ("value",),
    "InvalidPlacing": ("value",), "InvalidLot": ("value",), "InvalidMoves": ("value",), "InvalidPairs": ("value",),
    "InvalidPlan": ("value",), "InvalidOutcomes": ("value",), "InvalidDeed": ("value",),
    "InvalidJournal": ("place",), "InvalidText": ("text", "at"), "InvalidLine": ("line", "at"),
    "UnknownWord": ("word",), "TooMany": ("what",), "Undefined": ("what",), "NothingToUndo": ("word",),
}
KINDS = {name: getattr(errors, name) for name in NAMES}


class ErrorsTest(MovedTest):

    def test_there_are_seventeen_and_their_common_one(self):
        found = {name for name, value in vars(errors).items() if isinstance(value, type)}
        self.assertEqual(found, set(NAMES) | {"MoveError"})
        self.assertEqual(len(NAMES), 17)

    def test_all_stand_directly_under_move_error_and_none_under_another(self):
        self.assertEqual(errors.MoveError.__bases__, (ValueError,))
        for kind in KINDS.values():
            self.assertEqual(kind.__bases__, (errors.MoveError,))
            for other in KINDS.values():
                self.assertEqual(issubclass(kind, other), kind is other)

    def test_arguments_are_kept_as_attributes_whatever_they_are(self):
        for value in NO_INTEGERS + NO_TUPLES + (3, -7, object()):
            for name, attributes in NAMES.items():
                arguments = [value, [value]][:len(attributes)]
                for error in (KINDS[name](*arguments), KINDS[name](**dict(zip(attributes, arguments)))):
                    for attribute, argument in zip(attributes, arguments):
                        self.assertIs(getattr(error, attribute), argument)

    def test_a_list_that_is_kept_is_the_list_itself(self):
        value = [1]
        error = errors.InvalidWishes(value)
        value.append(2)
        self.assertEqual(error.value, [1, 2])

    def test_they_take_just_their_arguments(self):
        for name, attributes in NAMES.items():
            for count in (len(attributes) - 1, len(attributes) + 1):
                with self.assertRaises(TypeError):
                    KINDS[name](*range(count))

    def test_each_is_raised_and_caught_as_its_own_kind(self):
        for name, attributes in NAMES.items():
            error = KINDS[name](*attributes)
            for kind in list(KINDS.values()) + [errors.MoveError, ValueError]:
                try:
                    raise error
                except kind as caught:
                    self.assertIs(caught, error)
                    self.assertIn(kind, (KINDS[name], errors.MoveError, ValueError))
                except errors.MoveError:
                    self.assertNotIn(kind, (KINDS[name], errors.MoveError, ValueError))


if __name__ == "__main__":
    unittest.main()
