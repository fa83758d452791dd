import unittest

from cornersure import limits

NUMBERS = {
    "MOST_END": 10000, "MOST_COLUMNS": 4, "MOST_ROWS": 8, "MOST_WEIGHT": 1000, "MOST_PRICE": 1000, "MOST_POINTS": 6,
    "MOST_FACTS": 12, "MOST_PLACES": 6, "MOST_TIES": 10, "MOST_LENGTH": 1000, "MOST_NAMES": 5, "MOST_SEATS": 12,
}


class LimitsTest(unittest.TestCase):
    def test_each_name_has_its_number(self):
        for name, number in NUMBERS.items():
            with self.subTest(name=name):
                self.assertIs(getattr(limits, name).__class__, int)
                self.assertEqual(getattr(limits, name), number)

    def test_there_are_no_other_limits(self):
        self.assertEqual(sorted(name for name in vars(limits) if not name.startswith("_")), sorted(NUMBERS))


if __name__ == "__main__":
    unittest.main()
