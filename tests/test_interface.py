"""How calls are handed in and answers given back."""

import inspect
import time
import unittest

from placesrow import queue
from tests.helper import DAYS, GREATEST, LOADS, ROW, SERVED, TOLD, Scene, ahead, apply, ask, can, check, far, flat
from tests.helper import house, lacking, leave, places, quota, room, scenes, why, would


def refuse_change(self, *values, **named):
    raise AssertionError("the list that was handed in is being changed")


class Untouchable(list):
    """A list that can be read alone."""


for name in ("append", "clear", "extend", "insert", "pop", "remove", "reverse", "sort",
             "__setitem__", "__delitem__", "__iadd__", "__imul__"):
    setattr(Untouchable, name, refuse_change)


def some_line():
    return flat([house(3), places(0, 1), places(1, 1), places(2, 9), quota(0, 2, 1), apply(0, [0, 2]), apply(0, [0]),
                 apply(1, [0, 1]), apply(0, [2]), apply(9, [0]), apply(0, [2, 1]), ahead(2, 0), leave(1), leave(1),
                 ROW, SERVED, DAYS, why(0), why(3), can([0, 2]), can([0, 2, 3]), room([0, 3]), check([1, 0, -1]),
                 would(0, [2]), would(1, [2]), lacking(3), far(3), LOADS, TOLD, apply(0, [2]), why(4), lacking(4),
                 can([9]), room([2, 0]), check([0]), would(0, [9]), far(1), house(0), places(-GREATEST, GREATEST)])


def line_of(scene):
    """A line with each of the calls that a scene can be asked by."""
    row = sorted(scene.row)
    asked = [call(x) for call in (why, lacking, far) for x in row]
    return flat([*scene.calls(), *asked, SERVED, DAYS, can(row), room(row), check([0] * len(row)), would(0, [0]),
                 LOADS, TOLD])


def lines():
    return [some_line()] + [line_of(scene) for scene in scenes(100)]


def narrow_scene():
    """Eight for seven places on eight days: each crowd but the whole row is sought in vain."""
    return Scene([1] * 7 + [0], [(x % 4, range(8)) for x in range(8)])


class Interface(unittest.TestCase):
    def test_answers_takes_calls_alone(self):
        self.assertEqual(str(inspect.signature(queue.answers)), "(calls)")

    def test_each_answer_stands_behind_how_many_numbers_it_has(self):
        calls = [0, 2, 1, 0, 1, 1, 1, 2, 3, 0, 2, 0, 1, 3, 1, 1, 0, 6, 7, 8, 4, 7, 5, 0, 1, 6]
        told = [1, 2, 1, 0, 1, 0, 1, 0, 1, 1, 3, 2, 0, 1, 3, 2, 0, 1, 5, 2, 0, 1, 1, 0, 1, -4, 1, 0, 3, 2, 0, 1]
        self.assertEqual(queue.answers(calls), told)

    def test_an_empty_list_is_answered_by_its_count_alone(self):
        self.assertEqual(queue.answers([6]), [1, 0])
        self.assertEqual(queue.answers([7]), [1, 0])
        self.assertEqual(queue.answers([8]), [1, 0])

    def test_a_refusal_is_its_number_alone(self):
        self.assertEqual(queue.answers([3, 4, 1, 0]), [1, -1])
        self.assertEqual(queue.answers([3, 0, 0]), [1, -2])
        self.assertEqual(queue.answers([4, 0]), [1, -4])
        self.assertEqual(queue.answers([3, 0, 1, 0, 5, 0, 0]), [1, 0, 1, -5])

    def test_counts_stand_only_where_the_words_tell_them(self):
        begin = [0, 2, 1, 0, 1, 3, 2, 2, 0, 1, 3, 3, 1, 0]
        told = queue.answers(begin)
        for call, answer in (
            ([9, 0], [1, 0]),
            ([9, 1], [4, 1, 2, 0, 1]),
            ([10, 1, 0], [3, 1, 1, 0]),
            ([10, 2, 0, 1], [4, 0, 2, 0, 1]),
            ([10, 0], [2, 1, 0]),
            ([11, 2, 0, 1], [4, 2, 1, 1, 0]),
            ([11, 0], [4, 0, 0, 0, 0]),
            ([12, 2, 0, -1], [1, 1]),
            ([12, 2, -1, 0], [1, 0]),
            ([13, 0, 1, 1], [1, 0]),
            ([14, 0], [1, 0]),
            ([14, 1], [6, 1, 2, 0, -1, 1, -1]),
            ([15, 1], [1, 0]),
            ([16], [10, 1, 0, 0, 1, 0, 0, 0, 0, 0, 0]),
            ([17], [21, 2, 1, 9, 9, 9, 9, 0, 9, 9, 9, 9, 2, 0, 2, 2, 0, 1, 1, 3, 1, 0]),
        ):
            self.assertEqual(queue.answers(begin + call), told + answer, call)
        self.assertEqual(queue.answers([1, 0, 1, 13, 3, 1, 0]), [1, 0, 2, 1, 0])

    def test_far_answers_and_refuses_alike(self):
        self.assertEqual(queue.answers([3, 0, 1, 0, 15, 0, 15, -1]), [1, 0, 1, -1, 1, -1])

    def test_a_refused_list_is_read_to_its_end(self):
        sixty = [6, 7, 8] * 20
        self.assertEqual(ask(apply(0, sixty), apply(4, sixty), apply(0, []), apply(0, [0]), ROW),
                         [[-2], [-1], [-2], [0], [1, 0]])
        self.assertEqual(ask(can(sixty), room(sixty), check(sixty), would(0, sixty), would(4, sixty), ROW),
                         [[-2], [-2], [-2], [-2], [-1], [0]])

    def test_whole_numbers_in_a_list_are_given_back(self):
        for calls in lines():
            told = queue.answers(calls)
            self.assertIs(type(told), list)
            self.assertEqual({type(number) for number in told}, {int})

    def test_two_hundred_calls(self):
        calls = [house(8)] + [places(d, 9) for d in range(8)] + [apply(x % 4, range(8)) for x in range(8)]
        calls += [DAYS] * 30
        calls += [ahead(x % 8, (x + 1) % 8) for x in range(200 - len(calls))]
        found = ask(*calls)
        self.assertEqual(len(found), 200)
        self.assertEqual(found[17:47], [[8, *flat((x, 0) for x in range(8))]] * 30)

    def test_the_list_that_was_handed_in_is_as_it_was(self):
        for calls in lines():
            before = list(calls)
            queue.answers(calls)
            self.assertEqual(calls, before)

    def test_the_list_that_was_handed_in_is_not_changed_for_a_while(self):
        for calls in lines():
            self.assertEqual(queue.answers(Untouchable(calls)), queue.answers(calls))

    def test_the_list_that_is_given_back_is_the_callers_own(self):
        first = queue.answers(some_line())
        kept = list(first)
        first.clear()
        self.assertEqual(queue.answers(some_line()), kept)

    def test_a_second_time_is_as_the_first(self):
        first = [queue.answers(calls) for calls in lines()]
        self.assertEqual([queue.answers(calls) for calls in lines()], first)

    def test_nothing_is_kept_from_one_time_to_the_next(self):
        first = queue.answers(some_line())
        queue.answers(flat([house(8), places(0, 9), quota(1, 0, 0), apply(1, [0])]))
        self.assertEqual(queue.answers(some_line()), first)
        self.assertEqual(ask(places(0, 5), quota(1, 0, 5), ROW, apply(0, [0])), [[0], [9], [0], [0]])
        self.assertEqual(ask(places(0, 5), quota(1, 0, 5), ROW, apply(0, [0])), [[0], [9], [0], [0]])


class InGoodTime(unittest.TestCase):
    """A line of 200 calls, 30 of them with much to search, over a full row of 8 with 8 days."""

    def assert_in_good_time(self, scene, asked):
        line = [*scene.calls(), *asked]
        line += [TOLD, ROW, room(sorted(scene.row)), places(0, scene.places[0])] * 50
        calls = flat(line[:200])
        begin = time.perf_counter()
        told = queue.answers(calls)
        self.assertLess(time.perf_counter() - begin, 10)
        self.assertGreater(len(told), 200)

    def test_all_of_them(self):
        row = list(range(8))
        asked = [SERVED, DAYS, why(7), can(row), check([*range(7), -1]), would(0, row), lacking(7), far(7), LOADS]
        for scene in (narrow_scene(), Scene([9] * 8, [(0, range(8))] * 8)):
            self.assert_in_good_time(scene, (asked * 4)[:30])

    def test_each_of_them(self):
        row = list(range(8))
        for call in (SERVED, DAYS, why(7), can(row), check([*range(7), -1]), lacking(7), far(7), LOADS):
            self.assert_in_good_time(narrow_scene(), [call] * 30)

    def test_would_with_seven_in_the_row(self):
        scene = narrow_scene()
        scene.row.remove(7)
        self.assert_in_good_time(scene, [would(0, list(range(8)))] * 30)

    def test_the_longest_line(self):
        calls = [house(8), *[would(0, [GREATEST] * 60)] * 30, *[apply(0, [-GREATEST] * 60)] * 169]
        self.assertEqual(ask(*calls), [[8]] + [[-2]] * 199)


if __name__ == "__main__":
    unittest.main()
