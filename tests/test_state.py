"""The calls that set up the days and the row: house, places, quota, apply, leave, ahead, row."""

import unittest

from tests.helper import GREATEST, OUTSIDE, ROW, SERVED, ahead, apply, ask, house, last, leave, places, quota


def in_row(many):
    return [apply(0, [0]) for x in range(many)]


class House(unittest.TestCase):
    def test_a_line_begins_with_one_day_without_places(self):
        self.assertEqual(last(places(0, 3)), [0])
        self.assertEqual(last(places(1, 3)), [-4])

    def test_a_line_begins_with_nine_of_each_kind(self):
        self.assertEqual(ask(*[quota(k, 0, 1) for k in range(4)]), [[9]] * 4)

    def test_a_line_begins_with_nobody_in_the_row(self):
        self.assertEqual(ask(ROW, apply(0, [0])), [[0], [0]])

    def test_answers_how_many_days(self):
        for many in range(1, 9):
            self.assertEqual(last(house(many)), [many])

    def test_makes_as_many_days_without_places(self):
        for many in (1, 2, 7, 8):
            found = ask(house(many), *[places(d, 1) for d in range(8)])
            self.assertEqual(found[1:], [[0]] * many + [[-4]] * (8 - many))

    def test_lets_nine_of_each_kind_on_each_day(self):
        for many in (1, 8):
            found = ask(house(many), *[quota(k, d, 0) for k in range(4) for d in range(many)])
            self.assertEqual(found[1:], [[9]] * 4 * many)

    def test_all_is_new(self):
        found = ask(house(2), places(0, 4), quota(1, 1, 2), apply(0, [0]), apply(0, [1]), leave(0),
                    house(2), ROW, places(0, 1), quota(1, 1, 1), apply(2, [1]), ROW)
        self.assertEqual(found[6:], [[2], [0], [0], [9], [0], [1, 0]])

    def test_twenty_may_apply_anew(self):
        twenty = [call for x in range(20) for call in (apply(0, [0]), leave(x))]
        self.assertEqual(ask(*twenty, apply(0, [0]), house(1), apply(0, [0]))[-3:], [[-7], [1], [0]])

    def test_refuses_other_numbers_of_days(self):
        for many in (0, 9, -1, *OUTSIDE):
            self.assertEqual(last(house(many)), [-1])


class Places(unittest.TestCase):
    def test_answers_how_many_the_day_had(self):
        found = ask(house(8), places(7, 9), places(7, 0), places(7, 5), places(7, 5), places(0, 1), places(7, 1))
        self.assertEqual(found[1:], [[0], [9], [0], [5], [0], [5]])

    def test_refuses_numbers_out_of_range(self):
        for day in (-1, 8, *OUTSIDE):
            self.assertEqual(last(house(8), places(day, 1)), [-1])
        for many in (-1, 10, *OUTSIDE):
            self.assertEqual(last(house(8), places(0, many)), [-1])

    def test_refuses_a_day_that_is_not_there(self):
        self.assertEqual(last(house(3), places(3, 1)), [-4])
        self.assertEqual(last(house(7), places(7, 1)), [-4])
        self.assertEqual(last(house(3), places(2, 1)), [0])

    def test_looks_at_ranges_before_the_day(self):
        self.assertEqual(last(house(3), places(5, 10)), [-1])
        self.assertEqual(last(house(3), places(5, -1)), [-1])


class Quota(unittest.TestCase):
    def test_answers_how_many_might_come(self):
        found = ask(house(8), quota(3, 7, 0), quota(3, 7, 9), quota(3, 7, 4), quota(2, 7, 1), quota(3, 6, 2),
                    quota(3, 7, 4))
        self.assertEqual(found[1:], [[9], [0], [9], [9], [9], [4]])

    def test_refuses_numbers_out_of_range(self):
        for kind in (-1, 4, *OUTSIDE):
            self.assertEqual(last(house(8), quota(kind, 0, 1)), [-1])
        for day in (-1, 8, *OUTSIDE):
            self.assertEqual(last(house(8), quota(0, day, 1)), [-1])
        for many in (-1, 10, *OUTSIDE):
            self.assertEqual(last(house(8), quota(0, 0, many)), [-1])

    def test_refuses_a_day_that_is_not_there(self):
        self.assertEqual(last(house(3), quota(0, 3, 1)), [-4])
        self.assertEqual(last(house(7), quota(3, 7, 1)), [-4])

    def test_looks_at_ranges_before_the_day(self):
        self.assertEqual(last(house(3), quota(4, 5, 1)), [-1])
        self.assertEqual(last(house(3), quota(0, 5, 10)), [-1])


class Apply(unittest.TestCase):
    def test_numbers_rise_from_nought(self):
        found = ask(house(3), apply(0, [0]), apply(3, [0, 2]), apply(1, [0, 1, 2]), ROW)
        self.assertEqual(found[1:], [[0], [1], [2], [3, 0, 1, 2]])

    def test_a_number_is_not_given_again(self):
        self.assertEqual(ask(*in_row(2), leave(1), apply(0, [0]), ROW)[-2:], [[2], [2, 0, 2]])

    def test_stands_last_in_the_row(self):
        self.assertEqual(last(*in_row(3), ahead(2, 0), apply(0, [0]), ROW), [4, 2, 0, 1, 3])

    def test_takes_all_eight_days(self):
        self.assertEqual(last(house(8), apply(0, list(range(8)))), [0])

    def test_eight_may_stand_in_the_row(self):
        self.assertEqual(ask(*in_row(9), ROW)[-3:], [[7], [-7], [8, 0, 1, 2, 3, 4, 5, 6, 7]])
        self.assertEqual(last(*in_row(8), leave(3), apply(0, [0])), [8])

    def test_twenty_may_apply(self):
        nineteen = [call for x in range(19) for call in (apply(0, [0]), leave(x))]
        found = ask(*nineteen, apply(0, [0]), apply(0, [0]), leave(19), apply(0, [0]), ROW)
        self.assertEqual(found[-5:], [[19], [-7], [0], [-7], [0]])

    def test_refuses_a_kind_out_of_range(self):
        for kind in (-1, 4, *OUTSIDE):
            self.assertEqual(last(apply(kind, [0])), [-1])

    def test_refuses_lists_that_are_not_as_told(self):
        wrong = ([], [0, 0], [1, 0], [0, 2, 1], [0, 1, 1, 2], [-1], [-1, 0], [3], [0, 3], [0, 8], [0, 1, 2, 3])
        for days in wrong:
            self.assertEqual(last(house(3), apply(0, days)), [-2], days)
        for number in OUTSIDE:
            self.assertEqual(last(house(3), apply(0, [number])), [-2])
        self.assertEqual(last(house(3), apply(0, [-GREATEST, 0, 1])), [-2])
        self.assertEqual(last(house(3), apply(0, [0, 1, GREATEST])), [-2])

    def test_refuses_a_list_of_sixty(self):
        for days in (list(range(60)), [0] * 60, list(range(60, 0, -1)), [GREATEST] * 60, [-GREATEST] * 60):
            self.assertEqual(ask(house(8), apply(0, days), ROW)[1:], [[-2], [0]])

    def test_days_of_lists_have_no_range_of_their_own(self):
        self.assertEqual(last(house(8), apply(0, [8])), [-2])
        self.assertEqual(last(house(2), apply(0, [7])), [-2])

    def test_looks_at_the_kind_then_the_list_then_who_may_apply(self):
        self.assertEqual(last(*in_row(8), apply(4, [])), [-1])
        self.assertEqual(last(*in_row(8), apply(4, [0])), [-1])
        self.assertEqual(last(*in_row(8), apply(3, [])), [-2])
        self.assertEqual(last(*in_row(8), apply(3, [0])), [-7])
        self.assertEqual(last(apply(4, [5])), [-1])


class Leave(unittest.TestCase):
    def test_answers_how_many_are_in_the_row_then(self):
        found = ask(*in_row(3), leave(1), ROW, leave(0), leave(2), ROW)
        self.assertEqual(found[3:], [[2], [2, 0, 2], [1], [0], [0]])

    def test_the_twentieth_may_leave(self):
        twenty = [call for x in range(20) for call in (apply(0, [0]), leave(x))]
        self.assertEqual(last(*twenty), [0])

    def test_refuses_numbers_out_of_range(self):
        for x in (-1, 20, *OUTSIDE):
            self.assertEqual(last(*in_row(2), leave(x)), [-1])

    def test_refuses_who_is_not_in_the_row(self):
        self.assertEqual(last(leave(0)), [-4])
        self.assertEqual(last(*in_row(2), leave(2)), [-4])
        self.assertEqual(last(*in_row(2), leave(19)), [-4])
        self.assertEqual(last(*in_row(2), leave(0), leave(0)), [-4])
        self.assertEqual(last(*in_row(2), house(1), leave(0)), [-4])


class Ahead(unittest.TestCase):
    def test_puts_one_ahead_of_another(self):
        cases = (
            (3, 0, 0, [3, 0, 1, 2]),
            (3, 2, 2, [0, 1, 3, 2]),
            (0, 3, 2, [1, 2, 0, 3]),
            (0, 2, 1, [1, 0, 2, 3]),
            (1, 3, 2, [0, 2, 1, 3]),
            (2, 1, 1, [0, 2, 1, 3]),
        )
        for x, y, place, row in cases:
            self.assertEqual(ask(*in_row(4), ahead(x, y), ROW)[4:], [[place], [4, *row]], (x, y))

    def test_nothing_moves_if_already_just_ahead(self):
        self.assertEqual(ask(*in_row(4), ahead(1, 2), ROW)[4:], [[1], [4, 0, 1, 2, 3]])

    def test_goes_by_the_row_and_not_by_numbers(self):
        self.assertEqual(ask(*in_row(4), ahead(3, 0), ahead(0, 3), ahead(2, 3), ROW)[4:],
                         [[0], [0], [1], [4, 0, 2, 3, 1]])

    def test_places_are_told_without_those_who_left(self):
        self.assertEqual(ask(*in_row(4), leave(0), ahead(3, 2), ROW)[4:], [[3], [1], [3, 1, 3, 2]])

    def test_works_in_a_row_of_eight(self):
        self.assertEqual(ask(*in_row(8), ahead(7, 0), ahead(7, 6), ROW)[8:], [[0], [6], [8, 0, 1, 2, 3, 4, 5, 7, 6]])

    def test_refuses_numbers_out_of_range(self):
        for x in (-1, 20, *OUTSIDE):
            self.assertEqual(last(*in_row(2), ahead(x, 0)), [-1])
            self.assertEqual(last(*in_row(2), ahead(0, x)), [-1])
            self.assertEqual(last(*in_row(2), ahead(x, x)), [-1])

    def test_refuses_who_is_not_in_the_row(self):
        self.assertEqual(last(*in_row(2), ahead(0, 2)), [-4])
        self.assertEqual(last(*in_row(2), ahead(19, 1)), [-4])
        self.assertEqual(last(*in_row(2), leave(0), ahead(0, 1)), [-4])
        self.assertEqual(last(*in_row(2), leave(0), ahead(1, 0)), [-4])

    def test_refuses_one_ahead_of_themselves(self):
        self.assertEqual(last(*in_row(2), ahead(0, 0)), [-5])
        self.assertEqual(last(*in_row(2), ahead(1, 1)), [-5])

    def test_looks_at_ranges_then_the_row_then_whether_they_are_one(self):
        self.assertEqual(last(*in_row(2), ahead(5, 20)), [-1])
        self.assertEqual(last(*in_row(2), ahead(-1, 5)), [-1])
        self.assertEqual(last(*in_row(2), ahead(5, 5)), [-4])


class Row(unittest.TestCase):
    def test_is_empty_at_first_and_when_all_have_left(self):
        self.assertEqual(ask(ROW, apply(0, [0]), leave(0), ROW), [[0], [0], [0], [0]])

    def test_tells_those_who_are_not_served_too(self):
        self.assertEqual(ask(*in_row(2), SERVED, ROW)[2:], [[0], [2, 0, 1]])


if __name__ == "__main__":
    unittest.main()
