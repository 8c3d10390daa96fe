"""The document's points 1 to 4 under 'The promises'."""

import unittest

from tests.helper import SERVED, Scene, apply, can, is_crowd, is_giving, lacking, least_giving, parts, places, quota
from tests.helper import scenes, why


class Point1(unittest.TestCase):
    """A set can be served just if no part of it is a crowd."""

    def all_served(self, scene, applicants):
        alone = scene.copy()
        alone.row = [x for x in scene.row if x in applicants]
        return alone.served() == alone.row

    def test_sets_are_served_just_if_no_part_is_a_crowd(self):
        for seed, scene in enumerate(scenes(60)):
            crowds = [part for part in parts(sorted(scene.row)) if is_crowd(scene, part)]
            for applicants in parts(sorted(scene.row)):
                has_crowd = any(set(crowd) <= set(applicants) for crowd in crowds)
                self.assertEqual(self.all_served(scene, applicants), not has_crowd, (seed, applicants))

    def test_can_says_so_just_if_there_is_a_giving_and_no_part_is_a_crowd(self):
        for seed, scene in enumerate(scenes(60)):
            sets = parts(sorted(scene.row))
            crowds = [part for part in sets if is_crowd(scene, part)]
            for applicants, answer in zip(sets, scene.ask_each([can(applicants) for applicants in sets])):
                has_giving = least_giving(scene, applicants) is not None
                has_crowd = any(set(crowd) <= set(applicants) for crowd in crowds)
                self.assertEqual((answer[0] == 1, answer[0] == 0), (has_giving, has_crowd), (seed, applicants))

    def test_what_can_answers_bears_it_out(self):
        for seed, scene in enumerate(scenes(60)):
            sets = parts(sorted(scene.row))
            for applicants, answer in zip(sets, scene.ask_each([can(applicants) for applicants in sets])):
                self.assertEqual(answer[1], len(answer) - 2, (seed, applicants))
                if answer[0] == 1:
                    in_order = [x for x in scene.row if x in applicants]
                    self.assertEqual(answer[1], len(in_order), (seed, applicants))
                    self.assertTrue(is_giving(scene, in_order, answer[2:]), (seed, applicants))
                else:
                    self.assertLessEqual(set(answer[2:]), set(applicants), (seed, applicants))
                    self.assertTrue(is_crowd(scene, answer[2:]), (seed, applicants))

    def test_who_is_not_served_makes_a_crowd_with_those_served_ahead(self):
        for seed, scene in enumerate(scenes(300)):
            served = scene.served()
            ahead = []
            for x in scene.row:
                crowd = any(is_crowd(scene, part) for part in parts([*ahead, x]))
                self.assertEqual(x in served, not crowd, (seed, x))
                if x in served:
                    ahead.append(x)

    def test_the_days_are_a_giving(self):
        for seed, scene in enumerate(scenes(300)):
            given = scene.days()
            self.assertEqual([x for x, day in given], scene.served(), seed)
            self.assertTrue(is_giving(scene, [x for x, day in given], [day for x, day in given]), seed)


class Point2(unittest.TestCase):
    """Nobody who's served is put off by one behind."""

    def test_whoever_applies_later_changes_nothing_for_those_ahead(self):
        for seed, scene in enumerate(scenes(300)):
            served = scene.served()
            if len(scene.row) == 8:
                continue
            day_count = len(scene.places)
            for kind in range(4):
                for days in ([0], [day_count - 1], list(range(day_count))):
                    then = scene.last(apply(kind, days), SERVED)[1:]
                    self.assertEqual([x for x in then if x in scene.row], served, (seed, kind, days))

    def test_those_served_are_told_by_those_ahead_alone(self):
        for seed, scene in enumerate(scenes(200)):
            served = scene.served()
            for many in range(len(scene.row)):
                begin = scene.copy()
                begin.row = scene.row[:many]
                self.assertEqual(begin.served(), [x for x in served if x in begin.row], (seed, many))

    def test_one_behind_may_change_the_days_of_those_ahead(self):
        scene = Scene([1, 1], [(0, [0, 1])])
        self.assertEqual(scene.days(), [(0, 0)])
        self.assertEqual(scene.last(apply(0, [0]), [8]), [2, 0, 1, 1, 0])

    def test_whoever_applies_later_changes_nothing_of_why_one_ahead_is_not_served(self):
        for seed, scene in enumerate(scenes(200)):
            asked = [why(x) for x in scene.row]
            found = scene.ask(*asked, apply(seed % 4, [0]), *asked)
            self.assertEqual(found[:len(asked)], found[len(asked) + 1:], seed)


class Point3(unittest.TestCase):
    """No set that can be served is greater than those served, nor ahead of them where they first differ."""

    def test_no_set_that_can_be_served_is_better(self):
        for seed, scene in enumerate(scenes(250)):
            served = scene.served()
            for applicants in parts(scene.row):
                if least_giving(scene, applicants) is None:
                    continue
                self.assertLessEqual(len(applicants), len(served), (seed, applicants))
                differ = [x for x in scene.row if (x in served) != (x in applicants)]
                if differ:
                    self.assertIn(differ[0], served, (seed, applicants))


class Point4(unittest.TestCase):
    """One place more, or one who leaves, leaves nobody unserved who's served."""

    def test_one_place_more(self):
        for seed, scene in enumerate(scenes(300)):
            served = scene.served()
            for day, many in enumerate(scene.places):
                if many < 9:
                    more = scene.copy()
                    more.places[day] += 1
                    self.assertLessEqual(set(served), set(more.served()), (seed, day))

    def test_one_leaves(self):
        for seed, scene in enumerate(scenes(300)):
            served = scene.served()
            for x in scene.row:
                without = scene.copy()
                without.row.remove(x)
                self.assertLessEqual(set(served) - {x}, set(without.served()), (seed, x))

    def test_what_is_lacking_does_when_it_is_there(self):
        for seed, scene in enumerate(scenes(300)):
            served = scene.served()
            for x in [x for x in scene.row if x not in served]:
                answer = scene.last(lacking(x))
                for day, kind in zip(answer[2::2], answer[3::2]):
                    if kind == -1:
                        then = scene.last(places(day, scene.places[day] + 1), SERVED)[1:]
                        self.assertLessEqual({*served, x}, set(then), (seed, x, day))
                    else:
                        then = scene.last(quota(kind, day, scene.quotas[kind, day] + 1), SERVED)[1:]
                        self.assertIn(x, then, (seed, x, day, kind))

    def test_one_more_of_a_kind_may_take_a_place_from_one_behind(self):
        people = [(0, [0]), (1, [0])]
        self.assertEqual(Scene([1], people, {(0, 0): 0}).served(), [1])
        self.assertEqual(Scene([1], people, {(0, 0): 1}).served(), [0])


if __name__ == "__main__":
    unittest.main()
