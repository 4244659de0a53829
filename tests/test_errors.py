"""Promise [1] and the interface: the classes of refusals and their fields."""

import unittest

from headswap import errors

STRAIGHT_ABOVE = {
    "SwapError": ValueError,
    "Lacking": LookupError,
    "Held": RuntimeError,
    "BadHead": errors.SwapError,
    "BadRing": errors.SwapError,
    "BadNumber": errors.SwapError,
    "BadTable": errors.SwapError,
    "NotApart": errors.SwapError,
    "TooGreat": errors.SwapError,
    "BadName": errors.SwapError,
    "Full": errors.SwapError,
    "NoRule": errors.SwapError,
    "BadText": errors.SwapError,
    "Ring": errors.SwapError,
    "Breaks": errors.SwapError,
    "NoName": errors.Lacking,
    "NothingLeft": errors.Lacking,
    "Taken": errors.Held,
    "InUse": errors.Held,
}

# class, field, what it is where it is left out, another value
FIELDS = (
    ("BadText", "at", 0, 17),
    ("Ring", "around", (), ("a", "b")),
    ("Breaks", "name", "", "abc"),
    ("InUse", "name", "", "abc"),
)


class Classes(unittest.TestCase):
    def test_straight_above(self):
        for name, above in STRAIGHT_ABOVE.items():
            with self.subTest(name):
                self.assertEqual(getattr(errors, name).__bases__, (above,))

    def test_no_other_class(self):
        found = {name for name in vars(errors) if isinstance(vars(errors)[name], type)}
        self.assertEqual(found, set(STRAIGHT_ABOVE))

    def test_each_is_its_own(self):
        self.assertEqual(len({getattr(errors, name) for name in STRAIGHT_ABOVE}), len(STRAIGHT_ABOVE))

    def test_each_against_all_others(self):
        for name, above in STRAIGHT_ABOVE.items():
            lineage = {name}
            while above.__name__ in STRAIGHT_ABOVE:
                lineage.add(above.__name__)
                above = STRAIGHT_ABOVE[above.__name__]
            made = getattr(errors, name)()
            for other in STRAIGHT_ABOVE:
                self.assertEqual(isinstance(made, getattr(errors, other)), other in lineage, (name, other))
            for base in (ValueError, LookupError, RuntimeError):
                self.assertEqual(isinstance(made, base), base is above, (name, base))
            for base in (KeyError, IndexError, TypeError, ArithmeticError, NotImplementedError):
                self.assertNotIsInstance(made, base)

    def test_made_without_anything(self):
        for name, above in STRAIGHT_ABOVE.items():
            with self.subTest(name), self.assertRaises(above):
                raise getattr(errors, name)()

    def test_made_with_words(self):
        fielded = {row[0] for row in FIELDS}
        for name in set(STRAIGHT_ABOVE) - fielded:
            with self.subTest(name):
                self.assertEqual(str(getattr(errors, name)("words")), "words")


class Fields(unittest.TestCase):
    def test_left_out(self):
        for name, field, default, _ in FIELDS:
            with self.subTest(name):
                told = getattr(getattr(errors, name)(), field)
                self.assertEqual(told, default)
                self.assertIs(type(told), type(default))

    def test_by_place(self):
        for name, field, _, value in FIELDS:
            with self.subTest(name):
                self.assertEqual(getattr(getattr(errors, name)(value), field), value)

    def test_by_name(self):
        for name, field, _, value in FIELDS:
            with self.subTest(name):
                self.assertEqual(getattr(getattr(errors, name)(**{field: value}), field), value)

    def test_apart(self):
        one, other = errors.BadText(1), errors.BadText(at=2)
        self.assertEqual((one.at, other.at, errors.BadText().at), (1, 2, 0))

    def test_when_caught(self):
        with self.assertRaises(ValueError) as caught:
            raise errors.BadText(5)
        self.assertEqual(caught.exception.at, 5)
        with self.assertRaises(RuntimeError) as caught:
            raise errors.InUse(name="xy")
        self.assertEqual(caught.exception.name, "xy")


if __name__ == "__main__":
    unittest.main()
