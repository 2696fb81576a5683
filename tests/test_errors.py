"""neverhalves/errors.py: point [3]."""
import inspect
import unittest

from neverhalves import errors

NAMES = [
    "InvalidBoard", "InvalidPlace", "InvalidRow", "InvalidSum", "InvalidHand", "InvalidNumber",
    "InvalidNumbers", "NotExact", "NoDivisor", "Endless", "InvalidCut", "InvalidDiagonal",
    "InvalidHeight", "InvalidDepth", "NoMark", "InvalidName", "DoubleName", "UnknownName",
    "WrongKind", "NothingToUndo", "Unreadable",
]
CLASSES = [getattr(errors, name) for name in NAMES]


class Errors(unittest.TestCase):
    def test_there_are_these_and_no_others(self):
        self.assertEqual(len(NAMES), 21)
        found = [name for name, told in vars(errors).items() if inspect.isclass(told)]
        self.assertEqual(sorted(found), sorted(NAMES + ["SwapError"]))

    def test_what_they_are(self):
        self.assertEqual(errors.SwapError.__bases__, (ValueError,))
        for told in CLASSES:
            self.assertEqual(told.__bases__, (errors.SwapError,))
            self.assertEqual(told.__module__, "neverhalves.errors")

    def test_value_is_the_very_thing(self):
        inner = [1]
        things = [[1, 2], (inner, 2), None, True, False, "text", "", 0, -1, 10 ** 40, {}, object()]
        for told in CLASSES + [errors.SwapError]:
            for thing in things:
                self.assertIs(told(thing).value, thing)
                self.assertIs(told(value=thing).value, thing)

    def test_a_list_shows_what_is_changed_later(self):
        for told in CLASSES:
            rows = [1]
            inner = ([2],)
            one, other = told(rows), told(value=inner)
            rows.append(3)
            inner[0].append(4)
            self.assertEqual(one.value, [1, 3])
            self.assertEqual(other.value, ([2, 4],))

    def test_one_argument(self):
        for told in CLASSES:
            with self.assertRaises(TypeError):
                told()
            with self.assertRaises(TypeError):
                told(1, 2)
            with self.assertRaises(TypeError):
                told(thing=1)

    def test_caught_by_its_own_class_alone(self):
        for told in CLASSES:
            for other in CLASSES:
                error = told(())
                self.assertEqual(isinstance(error, other), told is other)
            for above in (told, errors.SwapError, ValueError):
                with self.assertRaises(above):
                    raise told("thing")

    def test_str_can_be_told(self):
        for told in CLASSES:
            self.assertIsInstance(str(told(None)), str)
            self.assertIsInstance(repr(told(value=(1,))), str)


if __name__ == "__main__":
    unittest.main()
