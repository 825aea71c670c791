"""Promise 10: facts about settings, by the conventions [2] and the definition [6]."""

import itertools
import random
import unittest

from tests.samples import (
    FRAMES, HUGE, call_both_ways, expect, expect_new_lists, odd_values, random_facts,
    unlike_integers, wrong_frames, wrong_settings)
from unknowncorners.errors import Impossible, InvalidFacts, InvalidFrame, InvalidSetting, InvalidText
from unknowncorners.settings import is_facts, keeps, least_setting, possible, ring

LISTED = (possible, least_setting, ring)
GOOD = ("x", 1, 0, 2)


def wrong_fact_values():
    """Values that are no fact of the frame (2, 1)."""
    found = odd_values() + [
        (), list(GOOD), GOOD[:-1], GOOD[1:], GOOD + (0,), (GOOD,), "x 1 0 2",
        ("x", 2, 0, 2), ("x", 0, 2, 2), ("x", -1, 0, 2), ("x", 0, -1, 2), ("x", HUGE, 0, 2),
        ("y", 1, 0, 2), ("y", 0, 1, 2), ("y", 0, -1, 2),
        ("x", 1, 0, 7), ("x", 1, 0, -7), ("x", 1, 0, HUGE), ("x", 1, 0, -HUGE),
    ]
    for axis in ("z", "X", "", "xy", None, True, 0, ("x",), ["x"], InvalidText(1)):
        found.append((axis, 0, 0, 0))
    for value in (0, 1):
        for wrong in unlike_integers(value):
            found += [("x", wrong, 0, 2), ("x", 0, wrong, 2), ("x", 0, 0, wrong)]
    return found


def wrong_facts():
    """Values that are no list of facts of the frame (2, 1)."""
    found = odd_values() + [(), (GOOD,), GOOD, [[GOOD]], ([GOOD],), [GOOD] * 7, [GOOD] * 20]
    for wrong in wrong_fact_values():
        found += [[wrong], [wrong, GOOD], [GOOD, wrong], [GOOD, GOOD, wrong, GOOD, GOOD, GOOD]]
    return found


def rows_that_keep(many, axis, facts, most):
    """All rows of values from 0 to most that keep the facts of the axis."""
    own = [(first, second, least) for kind, first, second, least in facts if kind == axis]
    return [list(row) for row in itertools.product(range(most + 1), repeat=many)
            if all(row[first] - row[second] >= least for first, second, least in own)]


def least_by_going_through(frame, facts):
    """The least plain setting with values from 0 to 12, or None.

    The values need not be greater: two differences of at most 6 part three unknowns.
    """
    rows = []
    for many, axis in zip(frame, "xy"):
        plain_rows = [row for row in rows_that_keep(many, axis, facts, 12) if 0 in row]
        if not plain_rows:
            return None
        rows.append(sorted(plain_rows)[0])
    return tuple(rows)


def is_ring_of(facts, indexes):
    """Whether the indexes are what the document asks for, if facts are not possible."""
    if type(indexes) is not list or not indexes or len(set(indexes)) != len(indexes):
        return False
    if not all(type(k) is int and 0 <= k < len(facts) for k in indexes):
        return False
    chain = [facts[k] for k in indexes]
    for fact, behind in zip(chain, chain[1:] + chain[:1]):
        if fact[0] != behind[0] or fact[2] != behind[1]:
            return False
    return sum(fact[3] for fact in chain) > 0


def many_lists():
    """Frames and facts, some of them possible and some not."""
    chance = random.Random(7)
    for frame in FRAMES:
        for many in range(7):
            for _ in range(8):
                yield frame, random_facts(chance, frame, many)
    for frame in ((3, 1), (1, 3), (3, 3)):
        for _ in range(60):
            facts = random_facts(chance, frame, 6)
            # Leasts around 0 make lists that are possible or not by little.
            yield frame, [fact[:3] + (chance.randint(-2, 1),) for fact in facts]


class IsFactsTest(unittest.TestCase):
    def test_no_facts(self):
        for frame in FRAMES:
            self.assertIs(call_both_ways(self, is_facts, frame=frame, value=[]), True)

    def test_ordinary_facts(self):
        for frame, facts in many_lists():
            self.assertIs(call_both_ways(self, is_facts, frame=frame, value=facts), True)

    def test_numbers_go_as_far_as_the_frame(self):
        for frame in FRAMES:
            for axis, many in zip("xy", frame):
                for number in range(-1, 4):
                    due = 0 <= number < many
                    self.assertIs(is_facts(frame, [(axis, number, 0, 0)]), due)
                    self.assertIs(is_facts(frame, [(axis, 0, number, 0)]), due)

    def test_leasts_from_minus_six_to_six(self):
        for least in range(-10, 11):
            self.assertIs(is_facts((2, 1), [("x", 0, 1, least)]), -6 <= least <= 6)

    def test_at_most_six(self):
        for many in range(10):
            self.assertIs(is_facts((2, 1), [GOOD] * many), many <= 6)

    def test_other_values(self):
        for value in wrong_facts():
            with self.subTest(str(value)[:60]):
                self.assertIs(call_both_ways(self, is_facts, frame=(2, 1), value=value), False)

    def test_a_wrong_frame(self):
        for frame in wrong_frames():
            for value in ([], [GOOD], None):
                expect(self, InvalidFrame, is_facts, frame, value)


class KeepsTest(unittest.TestCase):
    def test_no_facts(self):
        for frame in FRAMES:
            setting = ([0] * frame[0], [5] * frame[1])
            self.assertIs(keeps(frame, [], setting), True)

    def test_one_fact(self):
        for axis in "xy":
            for first in range(3):
                for second in range(3):
                    for least in range(-6, 7):
                        setting = ([0, 4, -2], [3, 3, 8])
                        values = setting["xy".index(axis)]
                        told = keeps((3, 3), [(axis, first, second, least)], setting)
                        self.assertIs(told, values[first] - values[second] >= least)

    def test_all_facts_must_be_kept(self):
        chance = random.Random(8)
        for frame, facts in many_lists():
            setting = tuple([[chance.randint(-5, 5) for _ in range(many)] for many in frame])
            told = call_both_ways(self, keeps, frame=frame, facts=facts, setting=setting)
            due = True
            for axis, first, second, least in facts:
                values = dict(zip("xy", setting))[axis]
                due = due and values[first] >= values[second] + least
            self.assertIs(told, due)

    def test_one_that_is_not_kept_at_each_place(self):
        for place in range(6):
            facts = [("x", 0, 1, -6)] * 6
            self.assertIs(keeps((2, 1), facts, ([0, 0], [0])), True)
            facts[place] = ("x", 0, 1, 1)
            self.assertIs(keeps((2, 1), facts, ([0, 0], [0])), False)

    def test_values_of_many_digits(self):
        facts = [("x", 0, 1, 2)]
        self.assertIs(keeps((2, 1), facts, ([HUGE, HUGE - 2], [0])), True)
        self.assertIs(keeps((2, 1), facts, ([HUGE, HUGE - 1], [0])), False)
        self.assertIs(keeps((2, 1), facts, ([HUGE, -HUGE], [0])), True)
        self.assertIs(keeps((2, 1), facts, ([-HUGE, HUGE], [0])), False)

    def test_a_fact_of_an_unknown_with_itself(self):
        for least in range(-6, 7):
            self.assertIs(keeps((1, 1), [("y", 0, 0, least)], ([3], [9])), least <= 0)


class PossibleTest(unittest.TestCase):
    def test_against_all_settings_of_small_values(self):
        answers = set()
        for frame, facts in many_lists():
            told = call_both_ways(self, possible, frame=frame, facts=facts)
            self.assertIs(told, least_by_going_through(frame, facts) is not None)
            answers.add(told)
        self.assertEqual(answers, {True, False})

    def test_both_axes_count(self):
        for axis in "xy":
            self.assertIs(possible((2, 2), [(axis, 0, 1, 1), (axis, 1, 0, 0)]), False)
        self.assertIs(possible((2, 2), [("x", 0, 1, 1), ("y", 1, 0, 0)]), True)

    def test_a_fact_of_an_unknown_with_itself(self):
        for least in range(-6, 7):
            self.assertIs(possible((1, 3), [("y", 2, 2, least)]), least <= 0)


class LeastSettingTest(unittest.TestCase):
    def test_against_all_settings_of_small_values(self):
        for frame, facts in many_lists():
            due = least_by_going_through(frame, facts)
            if due is None:
                expect(self, Impossible, least_setting, frame, facts)
            else:
                told = call_both_ways(self, least_setting, frame=frame, facts=facts)
                self.assertEqual(told, due)

    def test_told_facts(self):
        self.assertEqual(least_setting((3, 2), []), ([0, 0, 0], [0, 0]))
        self.assertEqual(least_setting((3, 1), [("x", 2, 1, 6), ("x", 1, 0, 6)]), ([0, 6, 12], [0]))
        self.assertEqual(least_setting((3, 1), [("x", 0, 1, 6), ("x", 1, 2, 6)]), ([12, 6, 0], [0]))
        self.assertEqual(least_setting((1, 3), [("y", 0, 2, 3), ("y", 1, 0, -1), ("y", 2, 0, -5)]),
                         ([0], [3, 2, 0]))
        self.assertEqual(least_setting((2, 2), [("x", 0, 1, -4), ("y", 1, 1, 0)]), ([0, 0], [0, 0]))

    def test_impossible_on_one_axis_alone(self):
        for axis in "xy":
            facts = [(axis, 0, 1, 3), (axis, 1, 0, -2)]
            expect(self, Impossible, least_setting, (2, 2), facts)
            with self.assertRaises(Impossible):
                least_setting(facts=facts, frame=(2, 2))

    def test_the_lists_are_new(self):
        expect_new_lists(self, least_setting, (2, 2), [])
        expect_new_lists(self, least_setting, (2, 1), [GOOD])


class RingTest(unittest.TestCase):
    def check(self, frame, facts, due):
        told = call_both_ways(self, ring, frame=frame, facts=facts)
        if due:
            self.assertIsNone(told)
        else:
            self.assertTrue(is_ring_of(facts, told), (facts, told))

    def test_against_all_settings_of_small_values(self):
        for frame, facts in many_lists():
            self.check(frame, facts, least_by_going_through(frame, facts) is not None)

    def test_rings_by_what_their_leasts_add_up_to(self):
        for axis in "xy":
            for total in (-1, 0, 1, 2):
                self.check((3, 3), [(axis, 1, 1, total)], total <= 0)
                self.check((3, 3), [(axis, 0, 2, 5), (axis, 2, 0, total - 5)], total <= 0)
                for order in itertools.permutations(
                        [(axis, 0, 1, 3), (axis, 1, 2, -4), (axis, 2, 0, total + 1)]):
                    self.check((3, 3), list(order), total <= 0)

    def test_the_sequence_is_that_of_the_ring(self):
        facts = [("x", 0, 1, 1), ("x", 2, 0, 1), ("x", 1, 2, 1)]
        self.assertIn(ring((3, 1), facts), [[0, 2, 1], [2, 1, 0], [1, 0, 2]])

    def test_facts_around_a_ring_are_no_part_of_it(self):
        facts = [("x", 0, 1, -6), ("y", 0, 1, 6), ("x", 1, 0, -5), ("x", 2, 1, 3), ("x", 1, 2, -2),
                 ("y", 1, 0, -6)]
        self.assertIn(ring((3, 2), facts), [[3, 4], [4, 3]])

    def test_facts_of_two_axes_make_no_ring(self):
        self.check((2, 2), [("x", 0, 1, 6), ("y", 1, 0, 6)], True)
        self.check((3, 3), [("x", 0, 1, 6), ("y", 1, 2, 6), ("x", 2, 0, 6)], True)

    def test_facts_that_follow_but_do_not_close_make_no_ring(self):
        self.check((3, 1), [("x", 0, 1, 6), ("x", 1, 2, 6), ("x", 0, 2, 6)], True)

    def test_a_fact_that_stands_twice(self):
        facts = [("x", 0, 1, 4), ("x", 0, 1, 4), ("x", 1, 0, -4)]
        self.check((2, 1), facts, True)
        self.check((2, 1), facts + [("x", 1, 0, -3)], False)

    def test_no_facts(self):
        for frame in FRAMES:
            self.assertIsNone(ring(frame, []))

    def test_the_list_is_new(self):
        expect_new_lists(self, ring, (2, 1), [("x", 0, 0, 1)])
        expect_new_lists(self, ring, (2, 1), [("x", 0, 1, 6), ("x", 1, 0, 6)])


class WrongArgumentsTest(unittest.TestCase):
    def test_wrong_frames(self):
        for frame in wrong_frames():
            for facts in ([], [GOOD], (), None, [("x", 0, 0, 1)]):
                for function in LISTED:
                    expect(self, InvalidFrame, function, frame, facts)
                for setting in (([0, 0], [0]), None):
                    expect(self, InvalidFrame, keeps, frame, facts, setting)

    def test_wrong_facts(self):
        for facts in wrong_facts():
            for function in LISTED:
                expect(self, InvalidFacts, function, (2, 1), facts)
            for setting in (([0, 0], [0]), ([0], [0]), None):
                expect(self, InvalidFacts, keeps, (2, 1), facts, setting)

    def test_wrong_settings(self):
        for setting in wrong_settings():
            for facts in ([], [GOOD]):
                expect(self, InvalidSetting, keeps, (2, 1), facts, setting)

    def test_facts_that_are_wrong_and_impossible(self):
        expect(self, InvalidFacts, least_setting, (2, 1), [("x", 0, 0, 1), ("x", 0, 0, 7)])
        expect(self, InvalidFacts, least_setting, (2, 1), [("x", 0, 0, 1)] * 7)

    def test_errors_by_name(self):
        with self.assertRaises(InvalidFacts):
            keeps(setting=None, facts=(), frame=(2, 1))
        with self.assertRaises(InvalidSetting):
            keeps(setting=None, facts=[], frame=(2, 1))
        for function in LISTED:
            with self.assertRaises(InvalidFacts):
                function(facts=(), frame=(2, 1))
            with self.assertRaises(InvalidFrame):
                function(facts=(), frame=(2, 4))


if __name__ == "__main__":
    unittest.main()
