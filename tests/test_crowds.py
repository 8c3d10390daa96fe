"""The calls why, can and room."""

import unittest

from tests.helper import GREATEST, OUTSIDE, Scene, apply, can, house, last, least_giving, leave, parts, places, quota
from tests.helper import room, scenes, searched_crowd, searched_room, searched_served, why

# For a row of three, 0 to 2, of four applied.
NOT_RISING_IN_ROW = ([0, 0], [1, 0], [0, 2, 1], [0, 1, 1], [-1], [-1, 0], [3], [0, 3], [4], [19], [20], [0, 1, 2, 3],
                     [GREATEST], [-GREATEST], [-GREATEST, 0], [0, 1, 2, GREATEST], [0, GREATEST, 1])
SIXTY = (list(range(60)), [0] * 60, list(range(60, 0, -1)), [GREATEST] * 60, [-GREATEST] * 60)


def row_of_three():
    return [places(0, 2), *[apply(0, [0]) for x in range(4)], leave(3)]


class Why(unittest.TestCase):
    def test_nought_alone_for_one_who_is_served(self):
        self.assertEqual(last(places(0, 1), apply(0, [0]), why(0)), [0])
        scene = Scene([9] * 8, [(x % 4, range(8)) for x in range(8)])
        self.assertEqual(scene.ask(*[why(x) for x in range(8)]), [[0]] * 8)

    def test_one_without_any_place_is_a_crowd_alone(self):
        self.assertEqual(last(apply(0, [0]), why(0)), [1, 1, 0])
        self.assertEqual(last(places(0, 9), quota(0, 0, 0), apply(0, [0]), why(0)), [1, 1, 0])

    def test_two_for_one_place(self):
        scene = Scene([1], [(0, [0]), (1, [0])])
        self.assertEqual(scene.ask(why(0), why(1)), [[0], [1, 2, 0, 1]])

    def test_two_of_a_kind_where_one_may_come(self):
        scene = Scene([9], [(0, [0]), (1, [0]), (0, [0])], {(0, 0): 1})
        self.assertEqual(scene.ask(why(1), why(2)), [[0], [1, 2, 0, 2]])

    def test_eight_for_seven_places(self):
        for quotas in ({}, {(k, d): 1 for k in range(4) for d in range(8)}):
            scene = Scene([1] * 7 + [0], [(x % 4, range(8)) for x in range(8)], quotas)
            self.assertEqual(scene.last(why(7)), [1, 8, *range(8)])

    def test_those_served_elsewhere_are_not_in_the_crowd(self):
        scene = Scene([1, 1], [(0, [1]), (0, [0]), (0, [0])])
        self.assertEqual(scene.last(why(2)), [1, 2, 1, 2])

    def test_those_who_could_make_way_are_in_the_crowd(self):
        scene = Scene([1, 1], [(0, [0, 1]), (0, [1]), (0, [0])])
        self.assertEqual(scene.last(why(2)), [1, 3, 0, 1, 2])

    def test_those_behind_and_those_not_served_are_not_looked_at(self):
        scene = Scene([1], [(0, [0])] * 4)
        self.assertEqual(scene.ask(why(1), why(2), why(3)), [[1, 2, 0, 1], [1, 2, 0, 2], [1, 2, 0, 3]])

    def test_the_crowd_is_told_by_rising_numbers_and_the_row_tells_who_is_ahead(self):
        scene = Scene([1], [(0, [0])] * 3)
        scene.row = [2, 0, 1]
        self.assertEqual(scene.ask(why(0), why(1), why(2)), [[1, 2, 0, 2], [1, 2, 1, 2], [0]])

    def test_refuses_numbers_out_of_range(self):
        for x in (-1, 20, *OUTSIDE):
            self.assertEqual(last(*row_of_three(), why(x)), [-1])

    def test_refuses_who_is_not_in_the_row(self):
        for x in (3, 4, 19):
            self.assertEqual(last(*row_of_three(), why(x)), [-4])
        self.assertEqual(last(why(0)), [-4])
        self.assertEqual(last(*row_of_three(), house(1), why(0)), [-4])

    def test_held_against_a_search_over_all_parts(self):
        for seed, scene in enumerate(scenes(600)):
            served = searched_served(scene)
            found = scene.ask(*[why(x) for x in scene.row])
            for place, x in enumerate(scene.row):
                if x in served:
                    self.assertEqual(found[place], [0], (seed, x))
                else:
                    ahead = [other for other in scene.row[:place] if other in served]
                    crowd = searched_crowd(scene, [*ahead, x])
                    self.assertEqual(found[place], [1, len(crowd), *crowd], (seed, x))


class Can(unittest.TestCase):
    def test_an_empty_list(self):
        self.assertEqual(last(can([])), [1, 0])
        self.assertEqual(last(*row_of_three(), can([])), [1, 0])

    def test_days_of_those_who_can(self):
        scene = Scene([1, 1, 1], [(0, [0, 1, 2]), (0, [0, 1]), (0, [0])])
        self.assertEqual(scene.ask(can([0]), can([0, 1]), can([0, 2]), can([0, 1, 2]), can([1, 2])),
                         [[1, 1, 0], [1, 2, 0, 1], [1, 2, 1, 0], [1, 3, 2, 1, 0], [1, 2, 1, 0]])

    def test_days_stand_in_the_order_of_the_row(self):
        scene = Scene([1, 1, 1], [(0, [0, 1, 2]), (0, [0, 1, 2]), (0, [0, 1, 2])])
        scene.row = [2, 0, 1]
        self.assertEqual(scene.ask(can([0, 1, 2]), can([1, 2])), [[1, 3, 0, 1, 2], [1, 2, 0, 1]])
        scene = Scene([1, 1], [(0, [0]), (0, [1])])
        scene.row = [1, 0]
        self.assertEqual(scene.last(can([0, 1])), [1, 2, 1, 0])

    def test_those_ahead_do_not_matter(self):
        scene = Scene([1], [(0, [0]), (0, [0])])
        self.assertEqual(scene.ask(can([1]), can([0]), can([0, 1])), [[1, 1, 0], [1, 1, 0], [0, 2, 0, 1]])

    def test_the_crowd_with_the_fewest(self):
        scene = Scene([2, 0, 1], [(0, [0]), (0, [0]), (0, [0]), (0, [2]), (0, [2]), (0, [1])])
        self.assertEqual(scene.ask(can([0, 1, 2, 3, 4, 5]), can([0, 1, 2, 3, 4]), can([0, 1, 2, 3])),
                         [[0, 1, 5], [0, 2, 3, 4], [0, 3, 0, 1, 2]])

    def test_the_first_by_numbers_of_the_crowds_with_the_fewest(self):
        scene = Scene([1], [(0, [0])] * 4)
        self.assertEqual(scene.ask(can([0, 1, 2, 3]), can([1, 2, 3]), can([1, 3])),
                         [[0, 2, 0, 1], [0, 2, 1, 2], [0, 2, 1, 3]])

    def test_the_first_is_told_where_crowds_differ_first(self):
        scene = Scene([1, 1], [(0, [0]), (0, [1]), (0, [1]), (0, [0])])
        self.assertEqual(scene.last(can([0, 1, 2, 3])), [0, 2, 0, 3])

    def test_the_crowd_does_not_go_by_the_order_of_the_row(self):
        scene = Scene([1, 1], [(0, [0]), (0, [1]), (0, [1]), (0, [0])])
        for row in ([3, 2, 1, 0], [1, 2, 0, 3], [2, 1, 3, 0]):
            scene.row = row
            self.assertEqual(scene.last(can([0, 1, 2, 3])), [0, 2, 0, 3])

    def test_a_full_row(self):
        scene = Scene([1] * 8, [(x % 4, range(8)) for x in range(8)])
        self.assertEqual(scene.last(can(list(range(8)))), [1, 8, *range(8)])
        scene.places[3] = 0
        self.assertEqual(scene.last(can(list(range(8)))), [0, 8, *range(8)])

    def test_the_greatest_numbers(self):
        calls = [places(0, 1)] + [call for x in range(18) for call in (apply(0, [0]), leave(x))]
        calls += [apply(0, [0]), apply(0, [0])]
        self.assertEqual(last(*calls, can([18, 19])), [0, 2, 18, 19])
        self.assertEqual(last(*calls, can([19])), [1, 1, 0])

    def test_refuses_lists_that_are_not_as_told(self):
        for numbers in (*NOT_RISING_IN_ROW, *SIXTY):
            self.assertEqual(last(*row_of_three(), can(numbers)), [-2], numbers)
        self.assertEqual(last(can([0])), [-2])

    def test_held_against_searches_over_all_givings_and_all_parts(self):
        for seed, scene in enumerate(scenes(60)):
            sets = parts(sorted(scene.row))
            for applicants, answer in zip(sets, scene.ask_each([can(applicants) for applicants in sets])):
                days = least_giving(scene, [x for x in scene.row if x in applicants])
                if days is None:
                    crowd = searched_crowd(scene, applicants)
                    self.assertEqual(answer, [0, len(crowd), *crowd], (seed, applicants))
                else:
                    self.assertEqual(answer, [1, len(days), *days], (seed, applicants))


class Room(unittest.TestCase):
    def scene(self):
        return Scene([2, 5, 0], [(0, [0, 1]), (0, [0]), (1, [1, 2])], {(0, 0): 1})

    def test_an_empty_list(self):
        self.assertEqual(last(room([])), [0, 0, 0])
        self.assertEqual(self.scene().last(room([])), [0, 0, 0, 0, 0])
        self.assertEqual(Scene([9] * 8, []).last(room([])), [0] * 10)

    def test_how_many_their_room_and_what_each_day_adds(self):
        self.assertEqual(self.scene().ask(room([0]), room([1]), room([2]), room([0, 1]), room([0, 1, 2])),
                         [[1, 6, 1, 5, 0], [1, 1, 1, 0, 0], [1, 5, 0, 5, 0], [2, 6, 1, 5, 0], [3, 6, 1, 5, 0]])

    def test_each_kind_counts_once(self):
        scene = Scene([9], [(0, [0]), (0, [0]), (1, [0]), (1, [0])], {(0, 0): 2, (1, 0): 3, (2, 0): 4})
        self.assertEqual(scene.ask(room([0, 1]), room([2, 3]), room([0, 1, 2, 3])), [[2, 2, 2], [2, 3, 3], [4, 5, 5]])

    def test_the_lesser_of_places_and_quotas(self):
        for most in range(10):
            for many in range(10):
                scene = Scene([most], [(3, [0])], {(3, 0): many})
                self.assertEqual(scene.last(room([0])), [1, min(most, many), min(most, many)])

    def test_kinds_of_those_who_cannot_come_on_the_day_do_not_count(self):
        scene = Scene([9, 9], [(0, [0]), (1, [1])], {(0, 0): 1, (1, 0): 2, (0, 1): 3, (1, 1): 4})
        self.assertEqual(scene.last(room([0, 1])), [2, 5, 1, 4])

    def test_it_is_not_held_back_by_who_is_served(self):
        scene = Scene([1], [(0, [0])] * 3)
        scene.row = [2, 1, 0]
        self.assertEqual(scene.ask(room([0]), room([0, 1, 2])), [[1, 1, 1], [3, 1, 1]])

    def test_a_full_row_on_eight_days(self):
        scene = Scene([9] * 8, [(x % 4, range(8)) for x in range(8)])
        self.assertEqual(scene.last(room(list(range(8)))), [8, 72, *[9] * 8])

    def test_refuses_lists_that_are_not_as_told(self):
        for numbers in (*NOT_RISING_IN_ROW, *SIXTY):
            self.assertEqual(last(*row_of_three(), room(numbers)), [-2], numbers)
        self.assertEqual(last(room([0])), [-2])

    def test_held_against_the_words(self):
        for seed, scene in enumerate(scenes(100)):
            sets = parts(sorted(scene.row))
            for applicants, answer in zip(sets, scene.ask_each([room(applicants) for applicants in sets])):
                added = searched_room(scene, applicants)
                self.assertEqual(answer, [len(applicants), sum(added), *added], (seed, applicants))


if __name__ == "__main__":
    unittest.main()
