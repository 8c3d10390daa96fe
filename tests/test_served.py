"""The calls served and days."""

import unittest

from tests.helper import DAYS, ROW, SERVED, Scene, ahead, apply, ask, every_giving, house, last, least_giving, leave
from tests.helper import places, quota, scenes, searched_served


class Served(unittest.TestCase):
    def test_nobody_in_an_empty_row(self):
        self.assertEqual(ask(SERVED, DAYS), [[0], [0]])
        self.assertEqual(ask(house(8), places(3, 9), SERVED, DAYS)[2:], [[0], [0]])

    def test_nobody_without_places(self):
        self.assertEqual(ask(apply(0, [0]), SERVED, DAYS)[1:], [[0], [0]])

    def test_nobody_of_a_kind_that_may_not_come(self):
        scene = Scene([9], [(0, [0]), (1, [0]), (0, [0])], {(0, 0): 0})
        self.assertEqual(scene.served(), [1])
        self.assertEqual(scene.days(), [(1, 0)])

    def test_as_many_as_there_are_places(self):
        for many in range(10):
            scene = Scene([many], [(x % 4, [0]) for x in range(8)])
            self.assertEqual(scene.served(), list(range(min(many, 8))))

    def test_as_many_of_a_kind_as_may_come(self):
        for many in range(10):
            scene = Scene([9], [(2, [0])] * 8, {(2, 0): many})
            self.assertEqual(scene.served(), list(range(min(many, 8))))

    def test_the_first_in_the_row_and_not_by_number(self):
        calls = [places(0, 1), apply(0, [0]), apply(0, [0])]
        self.assertEqual(ask(*calls, SERVED, ahead(1, 0), SERVED, leave(1), SERVED)[3:],
                         [[1, 0], [0], [1, 1], [1], [1, 0]])

    def test_are_told_in_the_order_of_the_row(self):
        calls = [places(0, 3), apply(0, [0]), apply(0, [0]), apply(0, [0]), ahead(2, 0)]
        self.assertEqual(ask(*calls, SERVED, DAYS)[5:], [[3, 2, 0, 1], [3, 2, 0, 0, 0, 1, 0]])

    def test_one_behind_who_is_passed_over_may_be_served(self):
        scene = Scene([1, 1], [(0, [0]), (0, [0]), (0, [1])])
        self.assertEqual(scene.served(), [0, 2])

    def test_one_ahead_makes_way_to_another_day(self):
        scene = Scene([1, 1], [(0, [0, 1]), (0, [0])])
        self.assertEqual(scene.served(), [0, 1])
        self.assertEqual(scene.days(), [(0, 1), (1, 0)])

    def test_a_chain_over_eight_days(self):
        people = [(x % 4, [x, x + 1]) for x in range(7)]
        scene = Scene([1] * 8, [*people, (3, [0])])
        self.assertEqual(scene.days(), [(x, x + 1) for x in range(7)] + [(7, 0)])

    def test_one_of_another_kind_makes_way(self):
        scene = Scene([1, 1], [(0, [0, 1]), (1, [0, 1])], {(1, 1): 0})
        self.assertEqual(scene.days(), [(0, 1), (1, 0)])

    def test_one_of_the_same_kind_makes_way(self):
        scene = Scene([9, 9], [(0, [0, 1]), (0, [0])], {(0, 0): 1})
        self.assertEqual(scene.days(), [(0, 1), (1, 0)])

    def test_quotas_hold_for_their_kind_and_day_alone(self):
        scene = Scene([9, 9], [(0, [0]), (0, [0]), (1, [0]), (1, [0]), (0, [1]), (0, [1])], {(0, 0): 1})
        self.assertEqual(scene.served(), [0, 2, 3, 4, 5])

    def test_a_lesser_number_of_places_takes_hold_at_once(self):
        calls = [places(0, 2), apply(0, [0]), apply(0, [0])]
        self.assertEqual(ask(*calls, SERVED, places(0, 1), SERVED, places(0, 0), SERVED)[3:],
                         [[2, 0, 1], [2], [1, 0], [1], [0]])
        self.assertEqual(ask(*calls, quota(0, 0, 1), SERVED, quota(0, 0, 0), SERVED)[3:], [[9], [1, 0], [1], [0]])

    def test_asking_changes_nothing(self):
        calls = [house(2), places(0, 1), places(1, 1), apply(0, [0, 1]), apply(0, [0])]
        found = ask(*calls, DAYS, SERVED, ROW, DAYS, SERVED, ROW)[5:]
        self.assertEqual(found[:3], found[3:])
        self.assertEqual(found[:3], [[2, 0, 1, 1, 0], [2, 0, 1], [2, 0, 1]])


class Days(unittest.TestCase):
    def test_each_gets_the_least_day_that_is_left(self):
        scene = Scene([1, 2, 1], [(0, [0, 1, 2])] * 4)
        self.assertEqual(scene.days(), [(0, 0), (1, 1), (2, 1), (3, 2)])

    def test_each_gets_the_least_day_with_which_all_can_be_served(self):
        scene = Scene([1, 1, 1], [(0, [0, 1, 2]), (0, [0, 1]), (0, [0])])
        self.assertEqual(scene.days(), [(0, 2), (1, 1), (2, 0)])

    def test_those_not_served_take_no_day(self):
        scene = Scene([1, 1], [(0, [0, 1]), (0, [1]), (0, [0, 1]), (0, [0])])
        self.assertEqual(scene.days(), [(0, 0), (1, 1)])

    def test_the_order_of_the_row_tells_who_gets_the_least_day(self):
        scene = Scene([1, 1], [(0, [0, 1]), (0, [0, 1])])
        scene.row = [1, 0]
        self.assertEqual(scene.days(), [(1, 0), (0, 1)])

    def test_the_answer_stands_as_one_list_of_numbers(self):
        self.assertEqual(last(house(2), places(1, 2), apply(0, [0, 1]), apply(3, [1]), DAYS), [2, 0, 1, 1, 1])


class HeldAgainstASearch(unittest.TestCase):
    def test_served_and_days(self):
        for seed, scene in enumerate(scenes(1500)):
            served = searched_served(scene)
            self.assertEqual(scene.served(), served, seed)
            self.assertEqual(scene.days(), list(zip(served, least_giving(scene, served))), seed)

    def test_days_are_the_least_of_all_givings(self):
        for seed, scene in enumerate(scenes(300)):
            served = searched_served(scene)
            choices = 1
            for x in served:
                choices *= len(scene.people[x][1])
            if choices <= 3000:
                self.assertEqual(scene.days(), list(zip(served, min(every_giving(scene, served)))), seed)

    def test_eight_that_can_come_on_all_of_eight_days(self):
        for places_a_day in (0, 1, 9):
            scene = Scene([places_a_day] * 8, [(0, range(8))] * 8, {(0, d): 1 for d in range(8)})
            self.assertEqual(scene.days(), [(x, x) for x in range(8)] if places_a_day else [])


if __name__ == "__main__":
    unittest.main()
