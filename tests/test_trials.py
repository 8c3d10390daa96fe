"""The calls check, would, lacking and far."""

import itertools
import random
import unittest

from tests.helper import DAYS, GREATEST, OUTSIDE, Scene, apply, ask, check, every_giving, far, house, is_giving, lacking
from tests.helper import last, least_giving, leave, places, scenes, searched_served, would


def in_row(many):
    return [apply(0, [0]) for x in range(many)]


def twenty_applied():
    return [call for x in range(20) for call in (apply(0, [0]), leave(x))]


class Check(unittest.TestCase):
    def test_an_empty_list_for_an_empty_row(self):
        self.assertEqual(last(check([])), [1])
        self.assertEqual(last(*in_row(1), leave(0), check([])), [1])

    def test_any_giving_of_those_served(self):
        scene = Scene([1, 1], [(0, [0, 1]), (0, [0, 1])])
        self.assertEqual(scene.ask(check([0, 1]), check([1, 0])), [[1], [1]])

    def test_too_many_on_a_day(self):
        scene = Scene([1, 9], [(0, [0, 1]), (1, [0, 1])])
        self.assertEqual(scene.ask(check([0, 0]), check([1, 1]), check([0, 1])), [[0], [1], [1]])

    def test_too_many_of_a_kind(self):
        people = [(2, [0, 1]), (2, [0, 1])]
        scene = Scene([9, 9], people, {(2, 0): 1})
        self.assertEqual(scene.ask(check([0, 0]), check([1, 1]), check([0, 1])), [[0], [1], [1]])
        scene = Scene([9, 9], people, {(1, 0): 1, (3, 0): 0})
        self.assertEqual(scene.last(check([0, 0])), [1])

    def test_a_day_on_which_one_cannot_come(self):
        scene = Scene([9, 9, 9], [(0, [0, 2])])
        self.assertEqual(scene.ask(check([0]), check([1]), check([2])), [[1], [0], [1]])

    def test_a_day_that_is_not_there(self):
        scene = Scene([9, 9], [(0, [0, 1]), (0, [0, 1])])
        for day in range(2, 8):
            self.assertEqual(scene.ask(check([0, day]), check([day, 0]), check([day, day])), [[0]] * 3)

    def test_not_all_who_are_served(self):
        scene = Scene([1, 1], [(0, [0, 1]), (0, [0])])
        self.assertEqual(scene.ask(check([1, 0]), check([1, -1]), check([-1, 0]), check([-1, -1])),
                         [[1], [0], [0], [0]])

    def test_others_than_those_served(self):
        scene = Scene([1], [(0, [0]), (0, [0])])
        self.assertEqual(scene.ask(check([0, -1]), check([-1, 0]), check([0, 0])), [[1], [0], [0]])

    def test_nobody_served(self):
        scene = Scene([0], [(0, [0])] * 8)
        self.assertEqual(scene.ask(check([-1] * 8), check([-1] * 7 + [0])), [[1], [0]])

    def test_goes_by_the_order_of_the_row(self):
        scene = Scene([1, 1], [(0, [0]), (0, [1])])
        scene.row = [1, 0]
        self.assertEqual(scene.ask(check([1, 0]), check([0, 1])), [[1], [0]])

    def test_all_eight_on_the_last_of_eight_days(self):
        scene = Scene([0] * 7 + [9], [(x % 4, range(8)) for x in range(8)])
        self.assertEqual(scene.ask(check([7] * 8), check([7] * 7 + [6])), [[1], [0]])

    def test_refuses_lists_of_another_length(self):
        for days in ([], [0], [0, 0, 0], [-1] * 60):
            self.assertEqual(last(places(0, 2), *in_row(2), check(days)), [-2], days)
        self.assertEqual(last(check([-1])), [-2])

    def test_refuses_numbers_that_are_no_days(self):
        for number in (-2, 8, *OUTSIDE):
            for days in ([number, 0], [0, number], [number, number]):
                self.assertEqual(last(places(0, 2), *in_row(2), check(days)), [-2], days)

    def test_held_against_a_search_over_all_givings(self):
        for seed, scene in enumerate(scenes(200)):
            served = searched_served(scene)
            asked = [self.told_list(scene, served, days) for days in every_giving_if_few(scene, served)[:5]]
            asked += self.some_lists(scene, served, random.Random(seed))
            for days, answer in zip(asked, scene.ask(*[check(days) for days in asked])):
                told = [(x, day) for x, day in zip(scene.row, days) if day != -1]
                right = [x for x, day in told] == served and is_giving(scene, served, [day for x, day in told])
                self.assertEqual(answer, [int(right)], (seed, days))

    def told_list(self, scene, served, days):
        given = dict(zip(served, days))
        return [given.get(x, -1) for x in scene.row]

    def some_lists(self, scene, served, source):
        """Lists that are a giving, or have one thing wrong, or much."""
        right = self.told_list(scene, served, least_giving(scene, served))
        found = [right, [source.randint(-1, 7) for x in scene.row]]
        for place in range(len(right)):
            day = source.randint(-1, len(scene.places) - 1)
            found.append([*right[:place], day, *right[place + 1:]])
        return found


def every_giving_if_few(scene, applicants):
    choices = 1
    for x in applicants:
        choices *= len(scene.people[x][1])
    return every_giving(scene, applicants) if choices <= 1000 else []


class Would(unittest.TestCase):
    def test_in_an_empty_row(self):
        self.assertEqual(ask(would(0, [0]), places(0, 1), would(0, [0])), [[0], [0], [1, 0]])

    def test_the_least_day_that_is_left(self):
        scene = Scene([1, 1, 9], [(0, [0, 1, 2])])
        self.assertEqual(scene.ask(would(0, [0, 1, 2]), would(0, [0]), would(0, [2]), would(0, [0, 2])),
                         [[1, 1], [1, 0], [1, 2], [1, 2]])

    def test_those_ahead_make_way_only_if_they_must(self):
        scene = Scene([1, 1], [(0, [0, 1])])
        self.assertEqual(scene.ask(would(0, [0, 1]), would(0, [0])), [[1, 1], [1, 0]])

    def test_not_served(self):
        scene = Scene([1, 1], [(0, [0]), (0, [0, 1])])
        self.assertEqual(scene.ask(would(0, [0]), would(1, [1]), would(2, [0, 1])), [[0]] * 3)

    def test_the_kind_matters(self):
        scene = Scene([9], [(0, [0])], {(0, 0): 1, (2, 0): 0})
        self.assertEqual(scene.ask(*[would(k, [0]) for k in range(4)]), [[0], [1, 0], [0], [1, 0]])

    def test_the_last_who_may_apply(self):
        scene = Scene([8], [(0, [0])] * 7)
        self.assertEqual(scene.last(would(0, [0])), [1, 0])
        nineteen = twenty_applied()[:38]
        self.assertEqual(ask(places(0, 1), *nineteen, would(0, [0]), apply(0, [0]))[-2:], [[1, 0], [19]])

    def test_nobody_has_applied_then(self):
        calls = [would(0, [0])] * 20
        self.assertEqual(last(*calls, apply(0, [0])), [0])

    def test_refuses_a_full_row(self):
        self.assertEqual(last(places(0, 9), *in_row(8), would(0, [0])), [-7])
        self.assertEqual(last(places(0, 9), *in_row(8), leave(3), would(0, [0])), [1, 0])

    def test_refuses_if_twenty_have_applied(self):
        self.assertEqual(last(places(0, 9), *twenty_applied(), would(0, [0])), [-7])

    def test_refuses_a_kind_out_of_range(self):
        for kind in (-1, 4, *OUTSIDE):
            self.assertEqual(last(places(0, 1), would(kind, [0])), [-1])

    def test_refuses_lists_that_are_not_as_told(self):
        wrong = ([], [0, 0], [1, 0], [0, 2, 1], [-1], [-1, 0], [3], [0, 3], [8], [GREATEST], [-GREATEST],
                 [-GREATEST, 0], [0, GREATEST], list(range(60)), [0] * 60)
        for days in wrong:
            self.assertEqual(last(house(3), would(0, days)), [-2], days)

    def test_looks_at_the_kind_then_the_list_then_who_may_apply(self):
        for begin in (in_row(8), twenty_applied()):
            self.assertEqual(ask(*begin, would(4, []), would(4, [0]), would(3, []), would(3, [0]))[-4:],
                             [[-1], [-1], [-2], [-7]])

    def test_is_what_apply_and_days_tell_then(self):
        for seed, scene in enumerate(scenes(300)):
            if len(scene.row) == 8:
                continue
            x = len(scene.people)
            for kind, days in self.some_newcomers(scene, random.Random(seed)):
                answer, applied, then = scene.ask(would(kind, days), apply(kind, days), DAYS)
                self.assertEqual(applied, [x])
                given = dict(zip(then[1::2], then[2::2]))
                self.assertEqual(answer, [1, given[x]] if x in given else [0], (seed, kind, days))

    def test_held_against_a_search_over_all_givings(self):
        for seed, scene in enumerate(scenes(300)):
            newcomers = self.some_newcomers(scene, random.Random(seed)) if len(scene.row) < 8 else []
            for kind, days in newcomers:
                then = Scene(scene.places, [*scene.people, (kind, days)], scene.quotas)
                then.row = [*scene.row, len(scene.people)]
                served = searched_served(then)
                told = [1, least_giving(then, served)[-1]] if served[-1:] == then.row[-1:] else [0]
                self.assertEqual(scene.last(would(kind, days)), told, (seed, kind, days))

    def some_newcomers(self, scene, source):
        day_count = len(scene.places)
        every = [list(days) for many in (1, 2, 3) for days in itertools.combinations(range(day_count), many)]
        return [(source.randrange(4), source.choice(every)) for turn in range(4)]


class Lacking(unittest.TestCase):
    def test_nought_alone_for_one_who_is_served(self):
        self.assertEqual(last(places(0, 1), apply(0, [0]), lacking(0)), [0])

    def test_a_place(self):
        self.assertEqual(last(apply(0, [0]), lacking(0)), [1, 1, 0, -1])
        scene = Scene([1], [(0, [0]), (1, [0])])
        self.assertEqual(scene.last(lacking(1)), [1, 1, 0, -1])

    def test_one_more_of_a_kind(self):
        for kind in range(4):
            scene = Scene([9], [(kind, [0])], {(kind, 0): 0})
            self.assertEqual(scene.last(lacking(0)), [1, 1, 0, kind])

    def test_nothing_if_one_thing_more_does_not_do(self):
        scene = Scene([0], [(0, [0])], {(0, 0): 0})
        self.assertEqual(scene.last(lacking(0)), [1, 0])
        scene = Scene([0] * 8, [(0, range(8))], {(0, d): 0 for d in range(8)})
        self.assertEqual(scene.last(lacking(0)), [1, 0])

    def test_each_thing_is_tried_by_itself_alone(self):
        scene = Scene([0], [(0, [0])] * 2)
        self.assertEqual(scene.ask(lacking(0), lacking(1)), [[1, 1, 0, -1], [1, 0]])

    def test_in_the_order_of_days(self):
        scene = Scene([1, 2, 2], [(1, [0, 1, 2]), (3, [0])], {(k, d): 0 for k in (1, 3) for d in (1, 2)})
        self.assertEqual(scene.last(lacking(1)), [1, 3, 0, -1, 1, 1, 2, 1])
        scene = Scene([9, 0, 1], [(2, [2]), (1, [0, 1, 2])], {(1, 0): 0})
        self.assertEqual(scene.last(lacking(1)), [1, 3, 0, 1, 1, -1, 2, -1])

    def test_kinds_rising_on_each_day(self):
        scene = Scene([1, 9], [(3, [0, 1]), (1, [0, 1])], {(3, 1): 0, (1, 1): 0})
        self.assertEqual(scene.last(lacking(1)), [1, 3, 0, -1, 1, 1, 1, 3])
        scene = Scene([9, 3], [(3, [0, 1]), (2, [0, 1]), (1, [0, 1]), (0, [0, 1])], {(k, 0): 0 for k in range(4)})
        self.assertEqual(scene.last(lacking(3)), [1, 5, 0, 0, 0, 1, 0, 2, 0, 3, 1, -1])

    def test_a_place_more_does_not_do_where_the_kind_is_lacking(self):
        scene = Scene([2, 0], [(0, [0]), (1, [0]), (0, [0, 1])], {(0, 0): 1})
        self.assertEqual(scene.last(lacking(2)), [1, 1, 1, -1])

    def test_those_ahead_who_are_not_served_are_let_in_first(self):
        scene = Scene([1, 1, 1], [(2, [0, 1]), (1, [0]), (0, [0, 2])], {(2, 1): 0, (0, 2): 0})
        self.assertEqual(scene.ask(lacking(1), lacking(2)), [[1, 2, 0, -1, 1, 2], [1, 1, 2, 0]])

    def test_days_on_which_one_cannot_come_may_do(self):
        scene = Scene([1, 0], [(0, [0, 1]), (0, [0])])
        self.assertEqual(scene.last(lacking(1)), [1, 2, 0, -1, 1, -1])

    def test_another_kind_may_do(self):
        scene = Scene([1, 1], [(0, [0, 1]), (1, [0])], {(0, 1): 0})
        self.assertEqual(scene.last(lacking(1)), [1, 2, 0, -1, 1, 0])

    def test_one_who_is_let_in_ahead_takes_the_place(self):
        scene = Scene([1, 0], [(0, [0]), (1, [0, 1]), (1, [0])], {(0, 0): 0})
        self.assertEqual(scene.last(lacking(2)), [1, 2, 0, -1, 1, -1])
        scene = Scene([1, 0], [(0, [1]), (1, [0, 1]), (1, [0])])
        self.assertEqual(scene.last(lacking(2)), [1, 1, 0, -1])

    def test_nine_may_become_ten(self):
        scene = Scene([9], [(1, [0])], {(1, 0): 0})
        self.assertEqual(scene.last(lacking(0)), [1, 1, 0, 1])
        scene = Scene([0], [(1, [0])], {(1, 0): 9})
        self.assertEqual(scene.last(lacking(0)), [1, 1, 0, -1])
        scene = Scene([9] * 8, [(3, range(8))] * 8, {(3, d): int(d < 7) for d in range(8)})
        self.assertEqual(scene.last(lacking(7)), [1, 8, *[number for d in range(8) for number in (d, 3)]])

    def test_eight_for_seven_places_on_eight_days(self):
        scene = Scene([1] * 7 + [0], [(x % 4, range(8)) for x in range(8)])
        self.assertEqual(scene.last(lacking(7)), [1, 8, *[number for d in range(8) for number in (d, -1)]])

    def test_refuses_numbers_out_of_range(self):
        for x in (-1, 20, *OUTSIDE):
            self.assertEqual(last(*in_row(2), lacking(x)), [-1])

    def test_refuses_who_is_not_in_the_row(self):
        self.assertEqual(last(lacking(0)), [-4])
        for x in (2, 19):
            self.assertEqual(last(*in_row(2), lacking(x)), [-4])
        self.assertEqual(last(*in_row(2), leave(1), lacking(1)), [-4])

    def test_held_against_a_search_over_all_givings(self):
        for seed, scene in enumerate(scenes(150)):
            served = searched_served(scene)
            for x, answer in zip(scene.row, scene.ask(*[lacking(x) for x in scene.row])):
                if x in served:
                    self.assertEqual(answer, [0], (seed, x))
                else:
                    found = self.searched_lacking(scene, x)
                    self.assertEqual(answer, [1, len(found) // 2, *found], (seed, x))

    def searched_lacking(self, scene, x):
        found = []
        for d in range(len(scene.places)):
            for kind in (-1, 0, 1, 2, 3):
                more = scene.copy()
                if kind == -1:
                    more.places[d] += 1
                else:
                    more.quotas[kind, d] += 1
                if x in searched_served(more):
                    found += [d, kind]
        return found


class Far(unittest.TestCase):
    def test_the_last_place_if_there_is_room_for_all(self):
        for many in range(1, 9):
            scene = Scene([9], [(0, [0])] * many)
            self.assertEqual(scene.ask(*[far(x) for x in range(many)]), [[many - 1]] * many)

    def test_none_without_places(self):
        self.assertEqual(last(apply(0, [0]), far(0)), [-1])
        scene = Scene([9, 0], [(0, [0]), (1, [1])], {(0, 0): 0})
        self.assertEqual(scene.ask(far(0), far(1)), [[-1], [-1]])

    def test_so_many_places_so_far(self):
        for many in range(1, 8):
            scene = Scene([many], [(0, [0])] * 8)
            self.assertEqual(scene.ask(*[far(x) for x in range(8)]), [[many - 1]] * 8)

    def test_those_who_make_way_or_come_on_other_days_do_not_count(self):
        scene = Scene([1, 1], [(0, [0, 1]), (0, [1]), (0, [0])])
        self.assertEqual(scene.ask(far(0), far(1), far(2)), [[1], [1], [1]])
        scene = Scene([1, 1], [(0, [1]), (0, [1]), (0, [0])])
        self.assertEqual(scene.ask(far(0), far(1), far(2)), [[0], [0], [2]])

    def test_places_are_told_in_the_row_without_those_who_left(self):
        scene = Scene([2], [(0, [0])] * 5)
        scene.row = [4, 1, 3]
        self.assertEqual(scene.ask(far(4), far(1), far(3)), [[1], [1], [1]])

    def test_the_others_stay_in_their_order(self):
        scene = Scene([1, 0, 1], [(0, [0, 2]), (0, [1]), (0, [0]), (0, [2])])
        scene.row = [1, 2, 3, 0]
        self.assertEqual(scene.last(far(0)), [2])
        scene.row = [1, 0, 3, 2]
        self.assertEqual(scene.ask(far(0), far(1), far(2), far(3)), [[2], [-1], [2], [2]])

    def test_refuses_numbers_out_of_range(self):
        for x in (-1, 20, *OUTSIDE):
            self.assertEqual(last(places(0, 9), *in_row(2), far(x)), [-1])

    def test_refuses_who_is_not_in_the_row(self):
        self.assertEqual(last(far(0)), [-4])
        for x in (2, 19):
            self.assertEqual(last(places(0, 9), *in_row(2), far(x)), [-4])
        self.assertEqual(last(places(0, 9), *in_row(2), leave(0), far(0)), [-4])

    def test_held_against_a_search_over_all_givings(self):
        for seed, scene in enumerate(scenes(300)):
            for x, answer in zip(scene.row, scene.ask(*[far(x) for x in scene.row])):
                self.assertEqual(answer, [self.searched_far(scene, x)], (seed, x))

    def searched_far(self, scene, x):
        found = -1
        others = [other for other in scene.row if other != x]
        for place in range(len(scene.row)):
            moved = scene.copy()
            moved.row = [*others[:place], x, *others[place:]]
            if x in searched_served(moved):
                found = place
        return found


if __name__ == "__main__":
    unittest.main()
