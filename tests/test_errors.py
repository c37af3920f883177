import unittest

from firstbooks import errors

LISTED = {
    ValueError: [("BadBar", "bar"), ("BadMoment", "moment"), ("BadPlaces", None), ("BadPrime", "prime"),
                 ("BadSigns", None), ("BadWord", "place"), ("NoAsk", "row"), ("Unread", "row")],
    KeyError: [("NoBar", "bar"), ("NoEntry", "moment"), ("NoNumber", "number")],
    LookupError: [("NoBook", "book"), ("NoPair", "pair"), ("NoStep", "step"), ("SameMoment", "moment"),
                  ("Twice", "bar")],
    IndexError: [("Beyond", "place")],
    RuntimeError: [("CantBe", "place"), ("Close", "lift"), ("Low", "powers")],
    ArithmeticError: [("TooMany", "many")],
}


class TestErrors(unittest.TestCase):
    def test_each_stands_straight_under_its_class(self):
        for base, rows in LISTED.items():
            for name, _ in rows:
                self.assertEqual(getattr(errors, name).__bases__, (base,), name)

    def test_each_has_its_field_from_the_start(self):
        for rows in LISTED.values():
            for name, field in rows:
                if field is None:
                    self.assertEqual(vars(getattr(errors, name)()), {})
                    continue
                for thing in (0, None, [1], "text"):
                    self.assertEqual(vars(getattr(errors, name)(thing)), {field: thing})
                    self.assertIs(getattr(getattr(errors, name)(**{field: thing}), field), thing)

    def test_each_can_be_raised_and_shown(self):
        for base, rows in LISTED.items():
            for name, field in rows:
                with self.assertRaises(base) as caught:
                    raise getattr(errors, name)(*([] if field is None else [[]]))
                self.assertIsInstance(str(caught.exception), str)

    def test_no_others_are_listed(self):
        told = [n for n in vars(errors) if isinstance(vars(errors)[n], type(ValueError))]
        self.assertEqual(sorted(told), sorted(name for rows in LISTED.values() for name, _ in rows))


if __name__ == "__main__":
    unittest.main()
