"""What would be if something were otherwise: it is tried on a twin of the house, so that the house stays as it is."""

from placesrow.giving import served, told_giving
from placesrow.limits import ANY_KIND, KINDS, NO_PLACE


def day_if_applied(house, kind, days):
    """The day that somebody who applied now would get; None if they'd not be served."""
    tried = house.twin()
    applicant = tried.admit(kind, days)
    return told_giving(tried, served(tried)).get(applicant)


def would_place_do(house, applicant, day):
    tried = house.twin()
    tried.places[day] += 1
    return applicant in served(tried)


def would_quota_do(house, applicant, day, kind):
    tried = house.twin()
    tried.quotas[day][kind] += 1
    return applicant in served(tried)


def what_is_lacking(house, applicant):
    """Each place or quota of which one more would do, as a list of a day and a kind."""
    found = []
    for day in range(house.day_count):
        if would_place_do(house, applicant, day):
            found.append([day, ANY_KIND])
        for kind in range(KINDS):
            if would_quota_do(house, applicant, day, kind):
                found.append([day, kind])
    return found


def farthest_place(house, applicant):
    """The greatest place in the row at which the applicant would be served."""
    others = [other for other in house.row if other != applicant]
    for place in range(len(others), -1, -1):
        tried = house.twin()
        tried.row = others[:place] + [applicant] + others[place:]
        if applicant in served(tried):
            return place
    return NO_PLACE
