"""Point [5]: the error classes."""

import unittest

from cutwalks import errors
from cutwalks.errors import Clash, CutError, InvalidText

WITH_STRING = [
    "InvalidRow", "InvalidSettings", "InvalidPlace", "InvalidRanges", "InvalidChange", "InvalidCuts",
    "InvalidLoop", "InvalidPieces", "InvalidKind", "InvalidName", "InvalidSpans", "InvalidNumber",
    "TooLarge", "NothingToUndo",
]
ALL = WITH_STRING + ["Clash", "InvalidText"]


class ErrorsTest(unittest.TestCase):
    def test_cut_error_is_a_direct_subclass_of_value_error(self):
        self.assertEqual(CutError.__bases__, (ValueError,))

    def test_each_class_is_a_direct_subclass_of_cut_error(self):
        for name in ALL:
            self.assertEqual(getattr(errors, name).__bases__, (CutError,), name)

    def test_each_class_has_its_name_and_is_no_other_one(self):
        classes = [getattr(errors, name) for name in ALL]
        self.assertEqual([made.__name__ for made in classes], ALL)
        self.assertEqual(len(set(classes)), 16)
        for one in classes:
            for other in classes:
                self.assertEqual(issubclass(one, other), one is other)

    def test_fourteen_classes_are_made_with_one_string(self):
        for name in WITH_STRING:
            made = getattr(errors, name)
            with self.assertRaises(made) as caught:
                raise made("some words")
            self.assertIsInstance(caught.exception, CutError)
            self.assertIsInstance(caught.exception, ValueError)
            self.assertEqual(str(caught.exception), "some words")

    def test_cut_error_is_made_with_one_string(self):
        self.assertEqual(str(CutError("some words")), "some words")

    def test_clash_keeps_its_indices(self):
        for indices in [(0, 1), (3, 99), (0, 10 ** 30 - 1)]:
            self.assertEqual(Clash(indices).indices, indices)
            self.assertEqual(Clash(indices=indices).indices, indices)
            self.assertIsInstance(Clash(indices).indices, tuple)
            with self.assertRaises(Clash) as caught:
                raise Clash(indices)
            self.assertEqual(caught.exception.indices, indices)

    def test_invalid_text_keeps_its_place(self):
        for place in [0, 1, 4000, 10 ** 30 - 1]:
            self.assertEqual(InvalidText(place).place, place)
            self.assertEqual(InvalidText(place=place).place, place)
            with self.assertRaises(InvalidText) as caught:
                raise InvalidText(place=place)
            self.assertEqual(caught.exception.place, place)

    def test_each_object_keeps_its_own_argument(self):
        first, second = Clash((0, 1)), Clash((1, 2))
        self.assertEqual((first.indices, second.indices), ((0, 1), (1, 2)))
        first, second = InvalidText(4), InvalidText(5)
        self.assertEqual((first.place, second.place), (4, 5))


if __name__ == "__main__":
    unittest.main()
