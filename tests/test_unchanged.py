"""Neither a refusal nor a question changes anything that later calls tell."""

import unittest

from tests.helper import DAYS, GREATEST, LOADS, ROW, SERVED, TOLD, Scene, ahead, apply, ask, can, check, far, house
from tests.helper import lacking, leave, places, quota, room, scenes, why, would

SIXTY = list(range(60))


def begin():
    """A row of 0, 5, 1, 2 and 4, of which 0, 2 and 4 are served."""
    return [house(3), places(0, 1), places(1, 2), places(2, 1), quota(0, 1, 0), quota(1, 2, 0), quota(2, 0, 3),
            apply(0, [0, 1]), apply(0, [0, 1]), apply(1, [1, 2]), apply(2, [0]), apply(3, [2]), leave(3),
            apply(0, [0]), ahead(5, 1)]


def full_row():
    return [*begin(), apply(1, [1]), apply(1, [1]), apply(1, [1])]


def look():
    """All that the calls can show, with 14 of those calls of which a line may have 30."""
    seen = [TOLD, ROW, SERVED, DAYS, LOADS, room([0, 1, 2]), can([0, 1, 2]), check([0, -1, -1, 1, 2])]
    seen += [why(1), why(5), lacking(1), lacking(5), far(0), far(5), would(1, [0, 1]), would(0, [0])]
    # These change the scene, so they come last.
    seen += [places(d, 1) for d in range(8)]
    seen += [quota(k, d, 1) for k in range(4) for d in range(8)]
    return [*seen, apply(0, [0]), TOLD, ROW, DAYS]


class Unchanged(unittest.TestCase):
    def assert_unchanged(self, before, calls, answers=None):
        """What comes behind the calls is answered as if they had not been."""
        seen = look()
        found = ask(*before, *calls, *seen)
        behind = len(before) + len(calls)
        if answers is not None:
            self.assertEqual(found[len(before):behind], answers, calls)
        self.assertEqual(found[behind:], ask(*before, *seen)[len(before):], calls)

    def assert_refused(self, before, calls, number):
        for call in calls:
            self.assert_unchanged(before, [call], [[number]])


class Refusals(Unchanged):
    def test_ranges(self):
        wrong = [house(0), house(9), places(8, 1), places(-1, 5), places(0, 10), places(0, -1), quota(4, 0, 1),
                 quota(-1, 0, 1), quota(0, 8, 1), quota(0, -1, 1), quota(0, 0, 10), quota(0, 0, -1), apply(4, [0]),
                 apply(-1, [0]), would(4, [0]), would(-1, [0]), ahead(20, 0), ahead(0, -1)]
        for x in (-1, 20, GREATEST, -GREATEST):
            wrong += [leave(x), why(x), lacking(x), far(x)]
        self.assert_refused(begin(), wrong, -1)

    def test_who_or_what_is_not_there(self):
        wrong = [places(3, 1), quota(0, 3, 1), ahead(3, 0), ahead(0, 3), ahead(6, 6)]
        for x in (3, 6, 19):
            wrong += [leave(x), why(x), lacking(x), far(x)]
        self.assert_refused(begin(), wrong, -4)

    def test_lists(self):
        wrong = [call(0, days) for call in (apply, would) for days in ([], [1, 1], [2, 1], [3], [-1, 0], SIXTY)]
        wrong += [call(numbers) for call in (can, room) for numbers in ([3], [1, 0], [2, 2], [-1], [0, 20], SIXTY)]
        wrong += [check(days) for days in ([], [0], [0] * 4, [0] * 6, [8] * 5, [0, 0, 0, 0, -2], SIXTY)]
        self.assert_refused(begin(), wrong, -2)

    def test_one_ahead_of_themselves(self):
        self.assert_refused(begin(), [ahead(x, x) for x in (0, 1, 2, 4, 5)], -5)

    def test_a_full_row(self):
        self.assert_refused(full_row(), [apply(1, [1]), would(1, [1])], -7)

    def test_a_refused_one_has_not_applied(self):
        eight = [apply(0, [0])] * 8
        wrong = [apply(0, [0]), apply(0, []), apply(9, [0]), would(0, [0])]
        self.assertEqual(ask(*eight, *wrong, leave(0), apply(0, [0]))[-1], [8])


class Questions(Unchanged):
    def questions(self):
        """Each kind of question, with either of its answers."""
        found = [ROW, SERVED, DAYS, LOADS, TOLD]
        found += [call(x) for call in (why, lacking, far) for x in (0, 1, 5)]
        found += [call(numbers) for call in (can, room) for numbers in ([], [0, 2], [0, 1, 2, 4, 5])]
        found += [check(days) for days in ([0, -1, -1, 1, 2], [-1] * 5, [7] * 5)]
        found += [would(kind, days) for kind, days in ((1, [1]), (0, [0]), (3, [0, 1, 2]))]
        return found

    def test_one_question(self):
        for call in self.questions():
            self.assert_unchanged(begin(), [call])

    def test_the_same_question_again(self):
        for call in self.questions():
            answer = ask(*begin(), call)[-1]
            self.assert_unchanged(begin(), [call] * 5, [answer] * 5)

    def test_questions_over_a_full_row(self):
        for call in (DAYS, why(7), lacking(7), far(7), can([0, 7]), room([0, 7]), check([-1] * 8), LOADS, TOLD):
            before = full_row()
            self.assertEqual(ask(*before, call, TOLD, DAYS)[-2:], ask(*before, TOLD, DAYS)[-2:], call)

    def test_nine_is_still_nine_behind_lacking(self):
        scene = Scene([9, 0], [(0, [0]), (1, [1])], {(0, 0): 0})
        found = scene.ask(lacking(0), lacking(1), places(0, 0), places(1, 0), quota(0, 0, 0), quota(0, 1, 0))
        self.assertEqual(found, [[1, 1, 0, 0], [1, 1, 1, -1], [9], [0], [0], [9]])

    def test_random_scenes(self):
        for seed, scene in enumerate(scenes(100)):
            asked = [call(x) for x in scene.row[:4] for call in (why, lacking, far)]
            asked += [SERVED, DAYS, LOADS, ROW, can(sorted(scene.row)), room(sorted(scene.row)),
                      check([0] * len(scene.row)), would(1, [0])]
            found = scene.ask(TOLD, DAYS, *asked, TOLD, DAYS)
            self.assertEqual(found[:2], found[-2:], seed)


if __name__ == "__main__":
    unittest.main()
