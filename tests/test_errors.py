"""The refusals, as the interface tells them."""

import unittest

from mendfield import errors

PLAIN = ("NoField", "ByNought", "NoCode", "NoWord", "TooLarge", "NoText", "NoRows", "NoOrder", "NotYet", "NoPlace")
WITH_PLACE = ("NoPoints", "NoSign")
WITH_LIST = (("TooFar", "lost"), ("RowsFar", "numbers"))
OTHERS = PLAIN + WITH_PLACE + tuple(name for name, value in WITH_LIST)


class Standing(unittest.TestCase):
    def test_the_base_is_a_value_error(self):
        self.assertEqual(errors.MendError.__bases__, (ValueError,))

    def test_fourteen_others_stand_straight_under_it(self):
        self.assertEqual(len(set(OTHERS)), 14)
        for name in OTHERS:
            with self.subTest(name=name):
                self.assertEqual(getattr(errors, name).__bases__, (errors.MendError,))

    def test_none_stands_under_another(self):
        for name in OTHERS:
            for other in OTHERS:
                if name != other:
                    self.assertFalse(issubclass(getattr(errors, name), getattr(errors, other)), (name, other))

    def test_there_are_no_more(self):
        classes = [name for name, value in vars(errors).items() if isinstance(value, type)]
        self.assertEqual(sorted(classes), sorted(OTHERS + ("MendError",)))


class Values(unittest.TestCase):
    def test_plain_ones_are_raised_and_taken(self):
        for name in ("MendError",) + PLAIN:
            with self.subTest(name=name):
                with self.assertRaises(errors.MendError) as taken:
                    raise getattr(errors, name)("some words")
                self.assertIs(type(taken.exception), getattr(errors, name))
                self.assertEqual(str(taken.exception), "some words")

    def test_place(self):
        for name in WITH_PLACE:
            for place in (0, 7):
                with self.subTest(name=name, place=place):
                    with self.assertRaises(errors.MendError) as taken:
                        raise getattr(errors, name)(place)
                    self.assertEqual(taken.exception.place, place)
                    self.assertIn(str(place), str(taken.exception))

    def test_lists(self):
        for name, value in WITH_LIST:
            for told in ([], [3], [0, 2, 5]):
                with self.subTest(name=name, told=told):
                    with self.assertRaises(errors.MendError) as taken:
                        raise getattr(errors, name)(told)
                    self.assertEqual(getattr(taken.exception, value), told)
                    self.assertIs(type(getattr(taken.exception, value)), list)

    def test_lists_are_the_asker_s_own(self):
        for name, value in WITH_LIST:
            with self.subTest(name=name):
                handed = [1, 4]
                error = getattr(errors, name)(handed)
                handed.append(9)
                self.assertEqual(getattr(error, value), [1, 4])
                getattr(error, value).append(5)
                self.assertEqual(handed, [1, 4, 9])


if __name__ == "__main__":
    unittest.main()
