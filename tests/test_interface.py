"""How calls are handed in and answers given back."""

import inspect
import unittest

from placesrow import queue
from tests.helper import DAYS, GREATEST, ROW, SERVED, ahead, apply, ask, flat, house, leave, places, quota, scenes


def refuse_change(self, *values, **named):
    raise AssertionError("the list that was handed in is being changed")


class Untouchable(list):
    """A list that can be read alone."""


for name in ("append", "clear", "extend", "insert", "pop", "remove", "reverse", "sort",
             "__setitem__", "__delitem__", "__iadd__", "__imul__"):
    setattr(Untouchable, name, refuse_change)


def some_line():
    return flat([house(3), places(0, 1), places(1, 1), places(2, 9), quota(0, 2, 1), apply(0, [0, 2]), apply(0, [0]),
                 apply(1, [0, 1]), apply(0, [2]), apply(9, [0]), apply(0, [2, 1]), ahead(2, 0), leave(1), leave(1),
                 ROW, SERVED, DAYS, house(0), places(-GREATEST, GREATEST)])


class Interface(unittest.TestCase):
    def test_answers_takes_calls_alone(self):
        self.assertEqual(str(inspect.signature(queue.answers)), "(calls)")

    def test_each_answer_stands_behind_how_many_numbers_it_has(self):
        calls = [0, 2, 1, 0, 1, 1, 1, 2, 3, 0, 2, 0, 1, 3, 1, 1, 0, 6, 7, 8, 4, 7, 5, 0, 1, 6]
        told = [1, 2, 1, 0, 1, 0, 1, 0, 1, 1, 3, 2, 0, 1, 3, 2, 0, 1, 5, 2, 0, 1, 1, 0, 1, -4, 1, 0, 3, 2, 0, 1]
        self.assertEqual(queue.answers(calls), told)

    def test_an_empty_list_is_answered_by_its_count_alone(self):
        self.assertEqual(queue.answers([6]), [1, 0])
        self.assertEqual(queue.answers([7]), [1, 0])
        self.assertEqual(queue.answers([8]), [1, 0])

    def test_a_refusal_is_its_number_alone(self):
        self.assertEqual(queue.answers([3, 4, 1, 0]), [1, -1])
        self.assertEqual(queue.answers([3, 0, 0]), [1, -2])
        self.assertEqual(queue.answers([4, 0]), [1, -4])
        self.assertEqual(queue.answers([3, 0, 1, 0, 5, 0, 0]), [1, 0, 1, -5])

    def test_a_refused_list_is_read_to_its_end(self):
        sixty = [6, 7, 8] * 20
        self.assertEqual(ask(apply(0, sixty), apply(4, sixty), apply(0, []), apply(0, [0]), ROW),
                         [[-2], [-1], [-2], [0], [1, 0]])

    def test_whole_numbers_in_a_list_are_given_back(self):
        told = queue.answers(some_line())
        self.assertIs(type(told), list)
        self.assertEqual({type(number) for number in told}, {int})

    def test_two_hundred_calls(self):
        calls = [house(8)] + [places(d, 9) for d in range(8)] + [apply(x % 4, range(8)) for x in range(8)]
        calls += [DAYS] * 30
        calls += [ahead(x % 8, (x + 1) % 8) for x in range(200 - len(calls))]
        found = ask(*calls)
        self.assertEqual(len(found), 200)
        self.assertEqual(found[17:47], [[8, *flat((x, 0) for x in range(8))]] * 30)

    def test_the_list_that_was_handed_in_is_as_it_was(self):
        lines = [some_line()] + [flat([*scene.calls(), SERVED, DAYS]) for scene in scenes(50)]
        for calls in lines:
            before = list(calls)
            queue.answers(calls)
            self.assertEqual(calls, before)

    def test_the_list_that_was_handed_in_is_not_changed_for_a_while(self):
        for calls in [some_line()] + [flat([*scene.calls(), SERVED, DAYS]) for scene in scenes(50)]:
            self.assertEqual(queue.answers(Untouchable(calls)), queue.answers(calls))

    def test_the_list_that_is_given_back_is_the_callers_own(self):
        first = queue.answers(some_line())
        kept = list(first)
        first.clear()
        self.assertEqual(queue.answers(some_line()), kept)

    def test_a_second_time_is_as_the_first(self):
        first = queue.answers(some_line())
        queue.answers(flat([house(8), places(0, 9), quota(1, 0, 0), apply(1, [0])]))
        self.assertEqual(queue.answers(some_line()), first)
        self.assertEqual(ask(places(0, 5), quota(1, 0, 5), ROW, apply(0, [0])), [[0], [9], [0], [0]])
        self.assertEqual(ask(places(0, 5), quota(1, 0, 5), ROW, apply(0, [0])), [[0], [9], [0], [0]])


if __name__ == "__main__":
    unittest.main()
