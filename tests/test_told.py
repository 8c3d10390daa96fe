"""The calls loads and told."""

import unittest

from tests.helper import LOADS, TOLD, Scene, ahead, apply, ask, flat, house, last, least_giving, leave, places, quota
from tests.helper import scenes, searched_served


class Loads(unittest.TestCase):
    def test_nobody(self):
        self.assertEqual(last(LOADS), [0] * 5)
        for many in (1, 2, 8):
            self.assertEqual(last(house(many), places(0, 9), LOADS), [0] * 5 * many)

    def test_nobody_who_is_not_served(self):
        self.assertEqual(last(apply(0, [0]), LOADS), [0] * 5)

    def test_each_day_with_its_kinds(self):
        scene = Scene([2, 9, 0], [(0, [0]), (3, [0]), (1, [0, 1]), (3, [1]), (3, [1, 2]), (2, [2])])
        self.assertEqual(scene.last(LOADS), [2, 1, 0, 0, 1, 3, 0, 1, 0, 2, 0, 0, 0, 0, 0])

    def test_goes_by_the_told_giving(self):
        scene = Scene([1, 1], [(0, [0, 1]), (1, [0, 1])])
        self.assertEqual(scene.last(LOADS), [1, 1, 0, 0, 0, 1, 0, 1, 0, 0])
        scene.row = [1, 0]
        self.assertEqual(scene.last(LOADS), [1, 0, 1, 0, 0, 1, 1, 0, 0, 0])

    def test_eight_on_one_day(self):
        scene = Scene([0] * 7 + [9], [(2, range(8))] * 8)
        self.assertEqual(scene.last(LOADS), [0] * 35 + [8, 0, 0, 8, 0])

    def test_held_against_a_search_over_all_givings(self):
        for seed, scene in enumerate(scenes(300)):
            served = searched_served(scene)
            told = list(zip(served, least_giving(scene, served)))
            loads = []
            for d in range(len(scene.places)):
                kinds = [scene.people[x][0] for x, day in told if day == d]
                loads += [len(kinds), *[kinds.count(k) for k in range(4)]]
            self.assertEqual(scene.last(LOADS), loads, seed)


class Told(unittest.TestCase):
    def test_a_lines_beginning(self):
        self.assertEqual(last(TOLD), [1, 0, 9, 9, 9, 9, 0])

    def test_a_new_house(self):
        for many in range(1, 9):
            told = [many, *[0, 9, 9, 9, 9] * many, 0]
            self.assertEqual(ask(places(0, 3), apply(0, [0]), house(many), TOLD)[-1], told)

    def test_days_quotas_and_the_row(self):
        calls = [house(3), places(1, 9), places(2, 4), quota(0, 0, 0), quota(3, 2, 5), quota(1, 1, 7),
                 apply(2, [0, 2]), apply(0, [1]), apply(3, [0, 1, 2]), ahead(2, 0)]
        days = [0, 0, 9, 9, 9, 9, 9, 7, 9, 9, 4, 9, 9, 9, 5]
        row = [2, 3, 3, 0, 1, 2, 0, 2, 2, 0, 2, 1, 0, 1, 1]
        self.assertEqual(last(*calls, TOLD), [3, *days, 3, *row])

    def test_those_who_left_are_not_told(self):
        calls = [apply(0, [0]), apply(1, [0]), apply(2, [0]), leave(1)]
        self.assertEqual(last(*calls, TOLD), [1, 0, 9, 9, 9, 9, 2, 0, 0, 1, 0, 2, 2, 1, 0])
        self.assertEqual(last(*calls, leave(0), leave(2), TOLD), [1, 0, 9, 9, 9, 9, 0])

    def test_a_full_row_on_eight_days(self):
        scene = Scene([9] * 8, [(x % 4, range(8)) for x in range(8)], {(k, d): 0 for k in range(4) for d in range(8)})
        told = [8, *[9, 0, 0, 0, 0] * 8, 8, *flat([x, x % 4, 8, *range(8)] for x in range(8))]
        self.assertEqual(scene.last(TOLD), told)

    def test_the_twentieth(self):
        calls = [call for x in range(19) for call in (apply(0, [0]), leave(x))]
        self.assertEqual(last(*calls, apply(3, [0]), TOLD), [1, 0, 9, 9, 9, 9, 1, 19, 3, 1, 0])

    def test_tells_what_was_set(self):
        for seed, scene in enumerate(scenes(200)):
            told = [len(scene.places)]
            for d, many in enumerate(scene.places):
                told += [many, *[scene.quotas[k, d] for k in range(4)]]
            told.append(len(scene.row))
            for x in scene.row:
                kind, days = scene.people[x]
                told += [x, kind, len(days), *days]
            self.assertEqual(scene.last(TOLD), told, seed)


if __name__ == "__main__":
    unittest.main()
