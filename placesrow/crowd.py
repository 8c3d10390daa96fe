"""The room of a set of applicants, and the crowd by which a set can't be served."""


def kinds_on_day(house, applicants, day):
    """The kinds, each once, of those who can come on the day."""
    kinds = []
    for applicant in applicants:
        kind = house.kind_of[applicant]
        if day in house.days_of[applicant] and kind not in kinds:
            kinds.append(kind)
    return kinds


def room_by_day(house, applicants):
    """For each day what it adds to the room of the applicants."""
    rooms = []
    for day in range(house.day_count):
        quotas = [house.quotas[day][kind] for kind in kinds_on_day(house, applicants, day)]
        rooms.append(min(house.places[day], sum(quotas)))
    return rooms


def is_crowd(house, applicants):
    return len(applicants) > sum(room_by_day(house, applicants))


def with_one_more(parts, applicants):
    """Each part with each applicant whose number is greater than all in it; first parts come first again."""
    longer = []
    for part in parts:
        for applicant in applicants:
            if part == [] or applicant > part[-1]:
                longer.append(part + [applicant])
    return longer


def told_crowd(house, applicants):
    """The crowd with the fewest among the parts, the first of these by their numbers; None if no part is one."""
    rising = sorted(applicants)
    parts = [[]]
    while len(parts) > 0:
        for part in parts:
            if is_crowd(house, part):
                return part
        parts = with_one_more(parts, rising)
    return None
