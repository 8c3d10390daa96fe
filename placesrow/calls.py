"""The calls: each takes its numbers from the reader, looks for refusals in their order, and gives back its answer."""

from placesrow.giving import served, told_giving
from placesrow.limits import LIST_NOT_AS_TOLD, NO_MORE_APPLY, NOT_THERE, OUT_OF_RANGE, SAME_APPLICANT
from placesrow.limits import MOST_APPLIED, MOST_DAYS, MOST_IN_ROW, MOST_OF_KIND, MOST_PLACES
from placesrow.limits import is_applicant, is_day, is_kind, is_rising, is_within


def with_count(numbers):
    return [len(numbers)] + numbers


def are_days_to_come(house, days):
    return len(days) > 0 and is_rising(days) and days[0] >= 0 and days[-1] < house.day_count


def nobody_may_apply(house):
    return len(house.row) >= MOST_IN_ROW or house.applied() >= MOST_APPLIED


def call_house(house, reader):
    day_count = reader.take_number()
    if not is_within(day_count, 1, MOST_DAYS):
        return [OUT_OF_RANGE]
    house.renew(day_count)
    return [day_count]


def call_places(house, reader):
    day = reader.take_number()
    places = reader.take_number()
    if not (is_day(day) and is_within(places, 0, MOST_PLACES)):
        return [OUT_OF_RANGE]
    if day >= house.day_count:
        return [NOT_THERE]
    before = house.places[day]
    house.places[day] = places
    return [before]


def call_quota(house, reader):
    kind = reader.take_number()
    day = reader.take_number()
    quota = reader.take_number()
    if not (is_kind(kind) and is_day(day) and is_within(quota, 0, MOST_OF_KIND)):
        return [OUT_OF_RANGE]
    if day >= house.day_count:
        return [NOT_THERE]
    before = house.quotas[day][kind]
    house.quotas[day][kind] = quota
    return [before]


def call_apply(house, reader):
    kind = reader.take_number()
    days = reader.take_list()
    if not is_kind(kind):
        return [OUT_OF_RANGE]
    if not are_days_to_come(house, days):
        return [LIST_NOT_AS_TOLD]
    if nobody_may_apply(house):
        return [NO_MORE_APPLY]
    return [house.admit(kind, days)]


def call_leave(house, reader):
    applicant = reader.take_number()
    if not is_applicant(applicant):
        return [OUT_OF_RANGE]
    if applicant not in house.row:
        return [NOT_THERE]
    house.row.remove(applicant)
    return [len(house.row)]


def call_ahead(house, reader):
    applicant = reader.take_number()
    other = reader.take_number()
    if not (is_applicant(applicant) and is_applicant(other)):
        return [OUT_OF_RANGE]
    if applicant not in house.row or other not in house.row:
        return [NOT_THERE]
    if applicant == other:
        return [SAME_APPLICANT]
    return [house.put_ahead(applicant, other)]


def call_row(house, reader):
    return with_count(house.row)


def call_served(house, reader):
    return with_count(served(house))


def call_days(house, reader):
    applicants = served(house)
    told = told_giving(house, applicants)
    answer = [len(applicants)]
    for applicant in applicants:
        answer.append(applicant)
        answer.append(told[applicant])
    return answer


CALLS = {
    0: call_house,
    1: call_places,
    2: call_quota,
    3: call_apply,
    4: call_leave,
    5: call_ahead,
    6: call_row,
    7: call_served,
    8: call_days,
}


def answer_next(house, reader):
    """Carry out the call that stands next, and give back its answer."""
    call = CALLS[reader.take_number()]
    return call(house, reader)
