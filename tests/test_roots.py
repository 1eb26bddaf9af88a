"""Points 14, 15, and 2 for them: roots, how often, and the polynomial through points."""

import itertools
import unittest

from helpers import EIGHT, FIELDS, FIVE, FOUR, SEVEN, SIXTY_ONE, SIXTY_FOUR, THREE, TWO, all_words, asked, chance
from mendfield.errors import ByNought, NoPoints
from mendfield.polys import poly_divided, poly_times, value_at
from mendfield.roots import by_roots, how_often, roots_of, through


class ByRoots(unittest.TestCase):
    def test_some_by_hand(self):
        self.assertEqual(by_roots(SEVEN, [1, 2]), [2, 4, 1])
        self.assertEqual(by_roots(SEVEN, [3, 3]), [2, 1, 1])
        self.assertEqual(by_roots(FOUR, [2, 3]), [1, 1, 1])
        self.assertEqual(by_roots(TWO, [0, 1, 1]), [0, 1, 0, 1])

    def test_no_roots(self):
        for field in FIELDS:
            self.assertEqual(asked(self, by_roots, field, []), [1])

    def test_each_as_often_as_it_stands_there(self):
        for field in FIELDS:
            turn = chance("by roots", field.told())
            for length in (1, 2, 5, 64):
                some = [turn.randrange(field.many) for place in range(length)]
                told = asked(self, by_roots, field, some)
                self.assertEqual((len(told), told[-1]), (length + 1, 1))
                left = told
                for r in some:
                    left, rest = poly_divided(field, left, [field.minus(0, r), 1])
                    self.assertEqual(rest, [])
                self.assertEqual(left, [1])


class RootsOf(unittest.TestCase):
    def test_of_nought_all(self):
        for field in FIELDS:
            for a in ([], [0], [0, 0]):
                self.assertEqual(asked(self, roots_of, field, a), list(range(field.many)))

    def test_none(self):
        for field in FIELDS:
            self.assertEqual(asked(self, roots_of, field, [1]), [])
            self.assertEqual(asked(self, roots_of, field, [field.many - 1, 0, 0]), [])
        self.assertEqual(roots_of(SEVEN, [1, 0, 1]), [])
        self.assertEqual(roots_of(TWO, [1, 1, 1]), [])

    def test_rising_and_each_once(self):
        self.assertEqual(roots_of(SEVEN, by_roots(SEVEN, [5, 2, 5, 5, 0])), [0, 2, 5])
        for field in FIELDS:
            turn = chance("roots of", field.told())
            for length in (1, 3, 9):
                some = [turn.randrange(field.many) for place in range(length)]
                told = asked(self, roots_of, field, field.scaled(field.many - 1, by_roots(field, some)) + [0])
                self.assertEqual(told, sorted(set(some)))

    def test_all_small_ones(self):
        for field in (TWO, THREE, FOUR, FIVE):
            for a in all_words(field, 3):
                due = [x for x in range(field.many) if value_at(field, a, x) == 0]
                self.assertEqual(roots_of(field, a), due)


class HowOften(unittest.TestCase):
    def test_of_nought_refused(self):
        for field in FIELDS:
            for a in ([], [0], [0, 0, 0]):
                for x in (0, 1):
                    with self.assertRaises(ByNought):
                        asked(self, how_often, field, a, x)

    def test_no_root(self):
        for field in FIELDS:
            for x in range(field.many):
                self.assertEqual(how_often(field, [1, 0], x), 0)
        self.assertEqual(how_often(SEVEN, [1, 0, 1], 3), 0)

    def test_as_often_as_it_stands(self):
        for field in FIELDS:
            turn = chance("how often", field.told())
            for often in (0, 1, 2, 3, 8, 20):
                x = turn.randrange(field.many)
                others = [y for y in [turn.randrange(field.many) for place in range(4)] if y != x]
                a = field.scaled(field.many - 1, by_roots(field, [x] * often + others)) + [0, 0]
                self.assertEqual(asked(self, how_often, field, a, x), often, (field.told(), x))
                for y in set(others):
                    self.assertEqual(how_often(field, a, y), others.count(y))

    def test_against_powers(self):
        for field in (TWO, THREE, FOUR):
            for a in all_words(field, 4):
                if any(a):
                    for x in range(field.many):
                        power = [1]
                        due = -1
                        while poly_divided(field, a, power)[1] == []:
                            power = poly_times(field, power, [field.minus(0, x), 1])
                            due += 1
                        self.assertEqual(how_often(field, a, x), due, (field.told(), a, x))


class Through(unittest.TestCase):
    def test_some_by_hand(self):
        self.assertEqual(through(SEVEN, [(1, 1), (2, 4), (3, 2)]), [0, 0, 1])
        self.assertEqual(through(SEVEN, [(5, 3), (0, 3), (1, 3)]), [3])
        self.assertEqual(through(EIGHT, [(6, 0), (2, 0)]), [])

    def test_no_points_and_one(self):
        for field in FIELDS:
            self.assertEqual(asked(self, through, field, []), [])
            for x in (0, 1, field.many - 1):
                self.assertEqual(asked(self, through, field, [(x, 0)]), [])
                self.assertEqual(asked(self, through, field, [(x, field.many - 1)]), [field.many - 1])

    def test_it_goes_through(self):
        for field in FIELDS:
            turn = chance("through", field.told())
            for many in sorted({2, 3, field.many // 2, field.many - 1, field.many}):
                xs = turn.sample(range(field.many), min(many, field.many))
                points = [(x, turn.randrange(field.many)) for x in xs]
                told = asked(self, through, field, points)
                self.assertLessEqual(len(told), len(points))
                self.assertTrue(told == [] or told[-1] != 0)
                self.assertEqual([value_at(field, told, x) for x, y in points], [y for x, y in points])

    def test_all_ways_through_all(self):
        for field in (TWO, THREE, FOUR):
            for ys in all_words(field, field.many):
                told = through(field, list(enumerate(ys)))
                self.assertEqual([value_at(field, told, x) for x in range(field.many)], ys)

    def refused_at(self, field, points):
        with self.assertRaises(NoPoints) as taken:
            asked(self, through, field, points)
        return taken.exception.place

    def test_an_x_twice(self):
        self.assertEqual(self.refused_at(SEVEN, [(1, 2), (1, 2)]), 1)
        self.assertEqual(self.refused_at(SEVEN, [(1, 2), (3, 2), (1, 5)]), 2)
        self.assertEqual(self.refused_at(SEVEN, [(1, 2), (3, 2), (4, 1), (3, 5), (1, 6)]), 3)
        self.assertEqual(self.refused_at(SEVEN, [(1, 2), (3, 2), (4, 1), (1, 6), (3, 5)]), 3)
        self.assertEqual(self.refused_at(SEVEN, [(2, 2), (2, 2), (2, 1), (0, 1), (0, 1)]), 1)
        self.assertEqual(self.refused_at(TWO, [(0, 1), (1, 1), (0, 1)]), 2)

    def test_the_least_place_of_all(self):
        for xs in itertools.product(range(3), repeat=4):
            due = min(place for place in range(4) if xs[place] in xs[:place])
            self.assertEqual(self.refused_at(FIVE, [(x, place) for place, x in enumerate(xs)]), due)

    def test_many_points(self):
        for field in (SIXTY_ONE, SIXTY_FOUR):
            points = [(x, field.times(x, x)) for x in range(field.many)]
            self.assertEqual(through(field, points), [0, 0, 1])
            self.assertEqual(self.refused_at(field, points[:40] + [(39, 1)] + points[40:]), 40)


if __name__ == "__main__":
    unittest.main()
