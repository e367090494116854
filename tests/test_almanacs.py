import unittest

from dunebooks.almanacs import amounts, behind, can_stand, gentlest, idle_in, is_almanac
from samples import BOUND, WORDS, nested, shape, slow_behind, slow_blown, small_almanacs, small_dunes, strange_things

DUNES = small_dunes(3, (0, 1, 4)) + [(3, 0, -2, 5)]
ALMANACS = small_almanacs(3, (0, 1, 3))
CASES = [(dune, almanac) for dune in DUNES for almanac in ALMANACS]
LONG = [(WORDS[at % 2], (30 - at) * (BOUND // 30)) for at in range(30)]
WIDE = (-BOUND, BOUND, BOUND, 0) * 10


class Told(unittest.TestCase):
    def told(self, told, wanted):
        self.assertEqual(shape(told), shape(wanted))


class IsAlmanac(unittest.TestCase):
    def test_almanacs(self):
        for thing in [[], [("cut", 0)], [("fill", BOUND)], [("cut", 3), ("cut", 3), ("fill", 5)], LONG]:
            self.assertIs(is_almanac(thing), True, thing)

    def test_bounds_are_not_looked_at(self):
        self.assertIs(is_almanac([("cut", 10 ** 400)] * 1000), True)

    def test_tuples_for_the_list(self):
        for thing in [(), (("cut", 1),), (("cut", 1), ("fill", 2)), ("cut", 1)]:
            self.assertIs(is_almanac(thing), False, thing)

    def test_one_bad_wind_anywhere(self):
        for bad in [["cut", 1], ("cut",), ("cut", 1, 1), ("cut", -1), ("cut", True), ("fill", False), ("hand", 1),
                    ("Cut", 1), (1, "cut"), (), [], None, "", "c1", 0, 1, True, [("cut", 1)], (("cut", 1),)]:
            for at in range(3):
                winds = [("cut", 1), ("fill", 2), ("cut", 0)]
                winds[at] = bad
                self.assertIs(is_almanac(winds), False, winds)
            self.assertIs(is_almanac([bad]), False, bad)

    def test_strange_things(self):
        for thing in strange_things():
            self.assertIs(is_almanac(thing), False, thing)

    def test_nested(self):
        for deep in range(1, 11):
            for kinds in [(list,), (tuple,), (list, tuple)]:
                self.assertIs(is_almanac(nested([("cut", 1)], deep, kinds)), False)
                self.assertIs(is_almanac([nested(("cut", 1), deep, kinds)]), False)


class Behind(Told):
    def test_ordinary(self):
        self.told(behind((0, 5, 1), [("cut", 3), ("fill", 2)]), (1, 3, 1))
        self.told(behind((0, 5, 1), [("fill", 2), ("cut", 3)]), (3, 5, 3))

    def test_order_counts(self):
        self.told(behind((0, 4), [("cut", 1), ("fill", 0)]), (1, 1))
        self.told(behind((0, 4), [("fill", 0), ("cut", 1)]), (4, 4))

    def test_no_winds(self):
        self.told(behind((0, 5, 1), []), (0, 5, 1))
        self.told(behind((5,), []), (5,))

    def test_one_post(self):
        self.told(behind((5,), [("cut", 0), ("fill", 0), ("cut", 3)]), (5,))

    def test_wind_by_wind(self):
        for dune, almanac in CASES:
            self.told(behind(dune, almanac), slow_behind(dune, almanac))

    def test_bounds(self):
        self.told(behind(WIDE, LONG), slow_behind(WIDE, LONG))
        self.told(behind((-BOUND, BOUND) * 20, [("cut", BOUND)] * 29 + [("fill", 0)]), (0,) * 40)


class Amounts(Told):
    def test_ordinary(self):
        self.told(amounts((0, 5, 1), [("cut", 3), ("fill", 2)]), [(2, 0), (0, 1)])
        self.told(amounts((0, 5, 1), [("fill", 2), ("cut", 0)]), [(0, 5), (2, 0)])

    def test_none(self):
        self.told(amounts((0, 5, 1), []), [])

    def test_idle_ones(self):
        self.told(amounts((0, 5, 1), [("cut", 5), ("fill", 9)]), [(0, 0), (0, 0)])
        self.told(amounts((5,), [("cut", 0), ("fill", 0)]), [(0, 0), (0, 0)])

    def test_wind_by_wind(self):
        for dune, almanac in CASES:
            wanted, now = [], dune
            for wind in almanac:
                after = slow_blown(now, wind)
                gap = abs(sum(after) - sum(now))
                wanted.append((gap, 0) if wind[0] == "cut" else (0, gap))
                now = after
            self.told(amounts(dune, almanac), wanted)

    def test_bounds(self):
        self.told(amounts((-BOUND, BOUND) * 20, [("cut", 0)]), [(40 * BOUND, 0)])
        self.told(amounts((-BOUND, BOUND) * 20, [("fill", 0)]), [(0, 40 * BOUND)])
        told = amounts(WIDE, LONG)
        self.assertEqual(len(told), 30)
        change = sum(brought - taken for taken, brought in told)
        self.assertEqual(change, sum(slow_behind(WIDE, LONG)) - sum(WIDE))


class IdleIn(Told):
    def test_ordinary(self):
        self.told(idle_in((0, 5, 1), [("cut", 5), ("cut", 3), ("fill", 3), ("fill", 2), ("cut", 2)]), [0, 2, 4])

    def test_as_they_come(self):
        self.told(idle_in((0, 5, 1), [("cut", 3), ("cut", 4)]), [1])
        self.told(idle_in((0, 5, 1), [("cut", 4), ("cut", 3)]), [])

    def test_edges(self):
        self.told(idle_in((0, 5, 1), []), [])
        self.told(idle_in((5,), [("cut", 0), ("fill", 0), ("cut", 0)]), [0, 1, 2])
        self.told(idle_in((0, 5), [("cut", 5)]), [0])
        self.told(idle_in((0, 5), [("fill", 4)]), [])

    def test_wind_by_wind(self):
        for dune, almanac in CASES:
            wanted = [at for at, wind in enumerate(almanac)
                      if slow_behind(dune, almanac[:at]) == slow_behind(dune, almanac[:at + 1])]
            self.told(idle_in(dune, almanac), wanted)

    def test_bounds(self):
        self.told(idle_in((-BOUND, BOUND) * 20, [("cut", BOUND)] * 30), list(range(1, 30)))


class Gentlest(Told):
    def test_ordinary(self):
        self.told(gentlest([("cut", 3), ("fill", 2), ("cut", 7)]), 2)
        self.told(gentlest([("fill", 3), ("fill", 9), ("cut", 1)]), 1)
        self.told(gentlest([("cut", 4), ("fill", 4)]), 4)

    def test_edges(self):
        self.assertIs(gentlest([]), None)
        self.told(gentlest([("fill", 0)]), 0)
        self.told(gentlest([("cut", 0), ("fill", 5)]), 0)
        self.told(gentlest([("cut", BOUND)] * 30), BOUND)

    def test_the_word_does_not_count(self):
        for almanac in ALMANACS[1:]:
            self.told(gentlest(almanac), sorted(wind[1] for wind in almanac)[0])


class CanStand(unittest.TestCase):
    def test_ordinary(self):
        self.assertIs(can_stand((0, 2, 1), [("cut", 3), ("fill", 2)]), True)
        self.assertIs(can_stand((0, 3, 1), [("cut", 3), ("fill", 2)]), False)
        self.assertIs(can_stand((0, 3, 1), [("fill", 2), ("cut", 3)]), False)

    def test_edges(self):
        self.assertIs(can_stand((0, 5, 1), []), True)
        self.assertIs(can_stand((5,), [("cut", 0)]), True)
        self.assertIs(can_stand((5, 5), [("fill", 0)]), True)
        self.assertIs(can_stand((0, 5, 1), [("cut", 5)]), True)
        self.assertIs(can_stand((0, 5, 1), [("cut", 4)]), False)

    def test_lists_are_dunes_too(self):
        self.assertIs(can_stand([0, 2, 1], [("cut", 2)]), True)
        self.assertIs(can_stand([0, 2, 1], []), True)
        self.assertIs(can_stand([0, 2, 1], [["cut", 1]]), False)

    def test_come_to_from_some_dune(self):
        heights = (0, 1, 2, 3)
        dunes = [dune for dune in small_dunes(3, heights)]
        for almanac in small_almanacs(2, (0, 1, 2)):
            come_to = {slow_behind(dune, almanac) for dune in dunes}
            for dune in dunes:
                self.assertIs(can_stand(dune, almanac), dune in come_to, (dune, almanac))

    def test_bounds(self):
        self.assertIs(can_stand((0, BOUND) * 20, [("cut", BOUND)] * 30), True)
        self.assertIs(can_stand((-1, BOUND) * 20, [("cut", BOUND)] * 30), False)
        self.assertIs(can_stand(slow_behind(WIDE, LONG), LONG), True)


if __name__ == "__main__":
    unittest.main()
