"""The calls: each takes its numbers from the reader, looks for refusals in their order, and gives back its answer."""

from placesrow.crowd import room_by_day, told_crowd
from placesrow.giving import can_be_served, is_giving, loads_of, served, told_giving, wishes_of
from placesrow.limits import LIST_NOT_AS_TOLD, NO_DAY, NO_MORE_APPLY, NOT_THERE, OUT_OF_RANGE, SAME_APPLICANT
from placesrow.limits import MOST_APPLIED, MOST_DAYS, MOST_IN_ROW, MOST_OF_KIND, MOST_PLACES
from placesrow.limits import is_applicant, is_day, is_kind, is_rising, is_within
from placesrow.trial import day_if_applied, farthest_place, what_is_lacking


def with_count(numbers):
    return [len(numbers)] + numbers


def are_days_to_come(house, days):
    return len(days) > 0 and is_rising(days) and days[0] >= 0 and days[-1] < house.day_count


def are_in_row(house, applicants):
    """Whether it's a list of rising applicants in the row."""
    return is_rising(applicants) and all([applicant in house.row for applicant in applicants])


def are_days_or_none(house, days):
    """Whether it's a list that tells for each in the row a day, if perhaps one that isn't there, or none."""
    return len(days) == len(house.row) and all([is_day(day) or day == NO_DAY for day in days])


def about_applicant(house, reader, answer_about):
    """The answer of a call whose one number is an applicant: the refusal, or what the function answers."""
    applicant = reader.take_number()
    if not is_applicant(applicant):
        return [OUT_OF_RANGE]
    if applicant not in house.row:
        return [NOT_THERE]
    return answer_about(house, applicant)


def about_newcomer(house, reader, answer_about):
    """The answer of a call with the kind and the days of somebody new: the refusal, or what the function answers."""
    kind = reader.take_number()
    days = reader.take_list()
    if not is_kind(kind):
        return [OUT_OF_RANGE]
    if not are_days_to_come(house, days):
        return [LIST_NOT_AS_TOLD]
    if len(house.row) >= MOST_IN_ROW or house.applied() >= MOST_APPLIED:
        return [NO_MORE_APPLY]
    return answer_about(house, kind, days)


def call_house(house, reader):
    day_count = reader.take_number()
    if not is_within(day_count, 1, MOST_DAYS):
        return [OUT_OF_RANGE]
    house.renew(day_count)
    return [day_count]


def call_places(house, reader):
    day = reader.take_number()
    places = reader.take_number()
    if not (is_day(day) and is_within(places, 0, MOST_PLACES)):
        return [OUT_OF_RANGE]
    if day >= house.day_count:
        return [NOT_THERE]
    before = house.places[day]
    house.places[day] = places
    return [before]


def call_quota(house, reader):
    kind = reader.take_number()
    day = reader.take_number()
    quota = reader.take_number()
    if not (is_kind(kind) and is_day(day) and is_within(quota, 0, MOST_OF_KIND)):
        return [OUT_OF_RANGE]
    if day >= house.day_count:
        return [NOT_THERE]
    before = house.quotas[day][kind]
    house.quotas[day][kind] = quota
    return [before]


def apply(house, kind, days):
    return [house.admit(kind, days)]


def call_apply(house, reader):
    return about_newcomer(house, reader, apply)


def leave(house, applicant):
    house.row.remove(applicant)
    return [len(house.row)]


def call_leave(house, reader):
    return about_applicant(house, reader, leave)


def call_ahead(house, reader):
    applicant = reader.take_number()
    other = reader.take_number()
    if not (is_applicant(applicant) and is_applicant(other)):
        return [OUT_OF_RANGE]
    if applicant not in house.row or other not in house.row:
        return [NOT_THERE]
    if applicant == other:
        return [SAME_APPLICANT]
    return [house.put_ahead(applicant, other)]


def call_row(house, reader):
    return with_count(house.row)


def call_served(house, reader):
    return with_count(served(house))


def call_days(house, reader):
    applicants = served(house)
    told = told_giving(house, applicants)
    answer = [len(applicants)]
    for applicant in applicants:
        answer.append(applicant)
        answer.append(told[applicant])
    return answer


def why(house, applicant):
    taken = served(house)
    if applicant in taken:
        return [0]
    ahead = house.row[:house.row.index(applicant)]
    together = [other for other in ahead if other in taken] + [applicant]
    return [1] + with_count(told_crowd(house, together))


def call_why(house, reader):
    return about_applicant(house, reader, why)


def call_can(house, reader):
    applicants = reader.take_list()
    if not are_in_row(house, applicants):
        return [LIST_NOT_AS_TOLD]
    in_order = [applicant for applicant in house.row if applicant in applicants]
    if not can_be_served(house, wishes_of(house, in_order)):
        return [0] + with_count(told_crowd(house, in_order))
    told = told_giving(house, in_order)
    return [1] + with_count([told[applicant] for applicant in in_order])


def call_room(house, reader):
    applicants = reader.take_list()
    if not are_in_row(house, applicants):
        return [LIST_NOT_AS_TOLD]
    rooms = room_by_day(house, applicants)
    return [len(applicants), sum(rooms)] + rooms


def call_check(house, reader):
    days = reader.take_list()
    if not are_days_or_none(house, days):
        return [LIST_NOT_AS_TOLD]
    day_of = {}
    for applicant, day in zip(house.row, days):
        if day != NO_DAY:
            day_of[applicant] = day
    if list(day_of) == served(house) and is_giving(house, day_of):
        return [1]
    return [0]


def would(house, kind, days):
    day = day_if_applied(house, kind, days)
    if day is None:
        return [0]
    return [1, day]


def call_would(house, reader):
    return about_newcomer(house, reader, would)


def lacking(house, applicant):
    if applicant in served(house):
        return [0]
    pairs = what_is_lacking(house, applicant)
    answer = [1, len(pairs)]
    for pair in pairs:
        answer.extend(pair)
    return answer


def call_lacking(house, reader):
    return about_applicant(house, reader, lacking)


def far(house, applicant):
    return [farthest_place(house, applicant)]


def call_far(house, reader):
    return about_applicant(house, reader, far)


def call_loads(house, reader):
    answer = []
    for load in loads_of(house, told_giving(house, served(house))):
        answer.extend(load)
    return answer


def call_told(house, reader):
    answer = [house.day_count]
    for day in range(house.day_count):
        answer.extend(house.limits_of(day))
    answer.append(len(house.row))
    for applicant in house.row:
        answer.append(applicant)
        answer.append(house.kind_of[applicant])
        answer.extend(with_count(house.days_of[applicant]))
    return answer


CALLS = {
    0: call_house,
    1: call_places,
    2: call_quota,
    3: call_apply,
    4: call_leave,
    5: call_ahead,
    6: call_row,
    7: call_served,
    8: call_days,
    9: call_why,
    10: call_can,
    11: call_room,
    12: call_check,
    13: call_would,
    14: call_lacking,
    15: call_far,
    16: call_loads,
    17: call_told,
}


def answer_next(house, reader):
    """Carry out the call that stands next, and give back its answer."""
    call = CALLS[reader.take_number()]
    return call(house, reader)
