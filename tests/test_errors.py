import unittest

from dunebooks import errors
from dunebooks.dunes import handed

UNDER = {
    ValueError: [("Clash", "places", (0, 3)), ("Against", "place", 2), ("Astray", "number", 1),
                 ("BadText", "at", 0), ("BadRow", "row", 4)],
    LookupError: [("NoPost", "post", -1), ("NoOrder", "number", 7), ("NoCore", "core", [("cut", 3), ("fill", 2)]),
                  ("NoDeed", "many", 9)],
    OverflowError: [("TooMany", "many", 301)],
}
ROWS = [(getattr(errors, name), base, field, value) for base, rows in UNDER.items() for name, field, value in rows]


class Refusals(unittest.TestCase):
    def test_each_stands_straight_under_its_class(self):
        for refusal, base, field, value in ROWS + [(errors.Unlike, ValueError, None, None)]:
            with self.subTest(refusal=refusal):
                self.assertEqual(refusal.__bases__, (base,))

    def test_none_stands_under_another(self):
        refusals = [row[0] for row in ROWS] + [errors.Unlike]
        self.assertEqual(len(set(refusals)), 11)
        for one in refusals:
            for other in refusals:
                self.assertEqual(issubclass(one, other), one == other)

    def test_field_by_place_and_by_name(self):
        for refusal, base, field, value in ROWS:
            with self.subTest(refusal=refusal):
                self.assertEqual(getattr(refusal(value), field), value)
                self.assertEqual(getattr(refusal(**{field: value}), field), value)

    def test_can_be_raised_and_caught_by_both_names(self):
        for refusal, base, field, value in ROWS:
            for caught in (refusal, base):
                with self.subTest(refusal=refusal, caught=caught):
                    with self.assertRaises(caught) as told:
                        raise refusal(value)
                    self.assertIs(type(told.exception), refusal)
                    self.assertEqual(getattr(told.exception, field), value)

    def test_field_is_needed(self):
        for refusal, base, field, value in ROWS:
            with self.subTest(refusal=refusal), self.assertRaises(TypeError):
                refusal()

    def test_unlike_has_no_field(self):
        with self.assertRaises(ValueError) as told:
            raise errors.Unlike()
        self.assertIs(type(told.exception), errors.Unlike)
        with self.assertRaises(TypeError):
            errors.Unlike(1)

    def test_fields_of_one_do_not_change_another(self):
        one, other = errors.NoPost(1), errors.NoPost(2)
        self.assertEqual((one.post, other.post), (1, 2))

    def test_numbers_may_have_any_length(self):
        # Python refuses to write out numbers of more than 4300 figures.
        for refusal, base, field, value in ROWS:
            if type(value) is int:
                for number in (10 ** 5000, -10 ** 5000):
                    told = refusal(number)
                    self.assertEqual(getattr(told, field) == number, True)
                    self.assertIsInstance(str(told), str)

    def test_kept_lists_do_not_change_behind(self):
        almanac = [["cut", 3], ("fill", 2)]
        told = errors.NoCore(almanac)
        almanac[0][1] = 8
        almanac.append(("cut", 1))
        self.assertEqual(told.core, [["cut", 3], ("fill", 2)])
        almanac = (["cut", 3], ("fill", 2))
        told = errors.NoCore(almanac)
        almanac[0][1] = 8
        self.assertEqual(told.core, (["cut", 3], ("fill", 2)))
        places = [0, 1]
        clash = errors.Clash(places)
        places[0] = 5
        self.assertEqual(list(clash.places), [0, 1])

    def test_a_raised_one_has_its_field(self):
        with self.assertRaises(errors.NoPost) as told:
            handed((1, 2), 2, 1)
        self.assertEqual(told.exception.post, 2)


if __name__ == "__main__":
    unittest.main()
