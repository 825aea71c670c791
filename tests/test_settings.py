"""Promise 10: settings, by the conventions [2] and the definitions [3] and [5]."""

import itertools
import random
import unittest

from tests.samples import (
    FRAMES, HUGE, call_both_ways, expect, expect_new_lists, odd_values, random_facts,
    unlike_integers, wrong_frames, wrong_settings)
from unknowncorners.errors import InvalidFrame, InvalidSetting, InvalidWidths
from unknowncorners.settings import close_settings, closed, is_setting, keeps, plain

SMALL_FRAMES = [frame for frame in FRAMES if sum(frame) <= 4]


def wrong_widths():
    found = odd_values() + [(), (1,), (1, 1, 1), [1, 1], ([1, 1],), "11", (41, 0), (0, 41),
                            (-1, 0), (0, -1), (HUGE, 0), (0, HUGE), ([], []), ((1,), (1,))]
    for wrong in unlike_integers(0) + unlike_integers(1):
        found += [(wrong, 1), (1, wrong)]
    return found


def random_setting(chance, frame, most):
    return tuple([[chance.randint(-most, most) for _ in range(many)] for many in frame])


def close_by_differences(values, width):
    """The closed values: for each one the sum of the shortened differences below it."""
    steps = sorted(set(values))
    return [sum(min(after - before, width + 1) for before, after in zip(steps, steps[1:])
                if after <= value) for value in values]


def is_plain_and_close(values, width):
    steps = sorted(values)
    return steps[0] == 0 and all(b - a <= width + 1 for a, b in zip(steps, steps[1:]))


class IsSettingTest(unittest.TestCase):
    def test_settings_of_each_frame(self):
        chance = random.Random(1)
        for frame in FRAMES:
            for most in (0, 5, HUGE):
                setting = random_setting(chance, frame, most)
                for other in FRAMES:
                    told = call_both_ways(self, is_setting, frame=other, value=setting)
                    self.assertIs(told, other == frame)

    def test_values_of_many_digits(self):
        self.assertIs(is_setting((3, 2), ([HUGE, 0, -HUGE], [-HUGE, HUGE])), True)

    def test_other_values(self):
        self.assertIs(is_setting((2, 1), ([0, 0], [0])), True)
        for value in wrong_settings():
            with self.subTest(str(value)[:60]):
                self.assertIs(call_both_ways(self, is_setting, frame=(2, 1), value=value), False)

    def test_a_wrong_frame(self):
        for frame in wrong_frames():
            for value in (([0], [0]), None):
                expect(self, InvalidFrame, is_setting, frame, value)


class PlainTest(unittest.TestCase):
    def test_ordinary_settings(self):
        chance = random.Random(2)
        for frame in FRAMES:
            for most in (1, 4, 50, HUGE):
                setting = random_setting(chance, frame, most)
                told = call_both_ways(self, plain, frame=frame, setting=setting)
                self.assertIs(is_setting(frame, told), True)
                for before, after in zip(setting, told):
                    self.assertEqual(sorted(after)[0], 0)
                    self.assertEqual(len({a - b for a, b in zip(after, before)}), 1)

    def test_told_settings(self):
        self.assertEqual(plain((3, 2), ([5, 3, 9], [-4, -6])), ([2, 0, 6], [2, 0]))
        self.assertEqual(plain((1, 1), ([-HUGE], [HUGE])), ([0], [0]))
        self.assertEqual(plain((2, 1), ([HUGE, -HUGE], [7])), ([2 * HUGE, 0], [0]))
        self.assertEqual(plain((2, 2), ([3, 3], [0, 2])), ([0, 0], [0, 2]))

    def test_the_lists_are_new(self):
        expect_new_lists(self, plain, (2, 1), ([0, 3], [0]))
        expect_new_lists(self, plain, (2, 1), ([5, 3], [-2]))
        row = [1, 2]
        told = plain((2, 2), (row, row))
        self.assertEqual(told, ([0, 1], [0, 1]))
        self.assertIsNot(told[0], told[1])


class ClosedTest(unittest.TestCase):
    def test_ordinary_settings(self):
        chance = random.Random(3)
        for frame in FRAMES:
            for most in (1, 4, 50, HUGE):
                for widths in ((0, 0), (1, 3), (4, 2), (0, 40), (40, 0), (40, 40)):
                    setting = random_setting(chance, frame, most)
                    told = call_both_ways(self, closed, frame=frame, setting=setting,
                                          widths=widths)
                    self.assertIs(is_setting(frame, told), True)
                    due = tuple(map(close_by_differences, setting, widths))
                    self.assertEqual(told, due)

    def test_told_settings(self):
        self.assertEqual(closed((3, 1), ([9, -4, -4], [8]), (2, 0)), ([3, 0, 0], [0]))
        self.assertEqual(closed((3, 2), ([0, 5, 20], [20, 0]), (5, 40)), ([0, 5, 11], [20, 0]))
        self.assertEqual(closed((2, 2), ([0, 41], [42, 0]), (40, 40)), ([0, 41], [41, 0]))
        self.assertEqual(closed((2, 2), ([0, 1], [2, 0]), (0, 0)), ([0, 1], [1, 0]))
        self.assertEqual(closed((3, 1), ([-HUGE, 0, HUGE], [HUGE]), (3, 3)), ([0, 4, 8], [0]))

    def test_equal_values_stay_equal_and_the_order_stays(self):
        chance = random.Random(4)
        for _ in range(200):
            setting = random_setting(chance, (3, 3), 4)
            told = closed((3, 3), setting, (chance.randint(0, 3), chance.randint(0, 3)))
            for before, after in zip(setting, told):
                for j in range(3):
                    for k in range(3):
                        self.assertEqual(before[j] < before[k], after[j] < after[k])

    def test_facts_stay_kept_when_the_widths_are_six_or_more(self):
        chance = random.Random(5)
        for _ in range(300):
            setting = random_setting(chance, (3, 2), 12)
            facts = random_facts(chance, (3, 2), 1)
            told = closed((3, 2), setting, (6, 6))
            self.assertIs(keeps((3, 2), facts, setting), keeps((3, 2), facts, told))

    def test_the_lists_are_new(self):
        expect_new_lists(self, closed, (2, 1), ([0, 3], [0]), (5, 5))
        expect_new_lists(self, closed, (2, 1), ([7, 3], [1]), (0, 0))
        row = [1, 2]
        told = closed((2, 2), (row, row), (1, 1))
        self.assertEqual(told, ([0, 1], [0, 1]))
        self.assertIsNot(told[0], told[1])


class CloseSettingsTest(unittest.TestCase):
    def going_through_all(self, frame, widths):
        rows = []
        for many, width in zip(frame, widths):
            values = range((many - 1) * (width + 1) + 2)
            rows.append([list(row) for row in itertools.product(values, repeat=many)
                         if is_plain_and_close(row, width)])
        return sorted((row, column) for row in rows[0] for column in rows[1])

    def test_against_all_settings_of_small_values(self):
        for frame in SMALL_FRAMES + [(2, 3), (3, 3)]:
            for widths in ((0, 0), (1, 0), (0, 2), (2, 1)):
                told = call_both_ways(self, close_settings, frame=frame, widths=widths)
                self.assertEqual(told, self.going_through_all(frame, widths))
                self.assertIs(type(told), list)

    def test_told_settings(self):
        self.assertEqual(close_settings((1, 1), (12, 0)), [([0], [0])])
        self.assertEqual(close_settings((2, 1), (0, 0)),
                         [([0, 0], [0]), ([0, 1], [0]), ([1, 0], [0])])
        self.assertEqual(close_settings((1, 2), (0, 1)),
                         [([0], [0, 0]), ([0], [0, 1]), ([0], [0, 2]), ([0], [1, 0]),
                          ([0], [2, 0])])

    def test_as_many_as_there_are_ascending_and_each_once(self):
        def rows(many, width):
            gaps = width + 1
            return (1, 1 + 2 * gaps, 1 + 6 * gaps + 6 * gaps * gaps)[many - 1]

        for frame in SMALL_FRAMES:
            for widths in ((12, 12), (4, 9), (12, 0), (0, 40), (40, 0)):
                told = close_settings(frame, widths)
                self.assertEqual(len(told), rows(frame[0], widths[0]) * rows(frame[1], widths[1]))
                for before, after in zip(told, told[1:]):
                    self.assertLess(before, after)
                for setting in told:
                    self.assertIs(is_setting(frame, setting), True)
                    for values, width in zip(setting, widths):
                        self.assertTrue(is_plain_and_close(values, width))

    def test_they_are_what_closing_gives(self):
        for frame in SMALL_FRAMES:
            told = close_settings(frame, (1, 2))
            chance = random.Random(6)
            for _ in range(30):
                setting = closed(frame, random_setting(chance, frame, 20), (1, 2))
                self.assertIn(setting, told)

    def test_the_lists_are_new(self):
        for frame in ((1, 1), (2, 2), (3, 1)):
            expect_new_lists(self, close_settings, frame, (1, 1))


class WrongArgumentsTest(unittest.TestCase):
    def test_wrong_frames(self):
        for frame in wrong_frames():
            for setting in (([0, 0], [0]), ([0], [0]), None):
                expect(self, InvalidFrame, plain, frame, setting)
                for widths in ((1, 1), None):
                    expect(self, InvalidFrame, closed, frame, setting, widths)
            for widths in ((1, 1), [1, 1]):
                expect(self, InvalidFrame, close_settings, frame, widths)

    def test_wrong_settings(self):
        for setting in wrong_settings():
            expect(self, InvalidSetting, plain, (2, 1), setting)
            for widths in ((1, 1), (41, 0), None):
                expect(self, InvalidSetting, closed, (2, 1), setting, widths)

    def test_wrong_widths(self):
        for widths in wrong_widths():
            expect(self, InvalidWidths, closed, (2, 1), ([0, 0], [0]), widths)
            expect(self, InvalidWidths, close_settings, (2, 1), widths)

    def test_errors_by_name(self):
        with self.assertRaises(InvalidSetting):
            closed(widths=None, setting=([0], [0]), frame=(2, 1))
        with self.assertRaises(InvalidSetting):
            plain(setting=([0], [0]), frame=(2, 1))
        with self.assertRaises(InvalidWidths):
            close_settings(widths=[1, 1], frame=(2, 1))
        with self.assertRaises(InvalidFrame):
            close_settings(widths=[1, 1], frame=(4, 1))


if __name__ == "__main__":
    unittest.main()
