"""Who can be served together, who is served, and on which days."""

from placesrow.limits import KINDS


class Giving:
    """A giving that takes in one applicant at a time; those already in it stay in it, if perhaps on other days."""

    def __init__(self, house, wishes):
        self.house = house
        self.wishes = wishes
        self.day_of = {}

    def on_day(self, day):
        return [applicant for applicant in self.day_of if self.day_of[applicant] == day]

    def alike_on_day(self, applicant, day):
        kind_of = self.house.kind_of
        return [other for other in self.on_day(day) if kind_of[other] == kind_of[applicant]]

    def kind_has_room(self, applicant, day):
        quota = self.house.quotas[day][self.house.kind_of[applicant]]
        return len(self.alike_on_day(applicant, day)) < quota

    def has_room(self, applicant, day):
        return self.kind_has_room(applicant, day) and len(self.on_day(day)) < self.house.places[day]

    def in_the_way(self, applicant, day):
        """Each whose going would let the applicant have a day on which there's no room."""
        if self.kind_has_room(applicant, day):
            return self.on_day(day)
        return self.alike_on_day(applicant, day)

    def take_in(self, applicant):
        """Give the applicant a day, others moving where they must; False, and nothing changed, if that can't be."""
        # Whoever is asked to move asks in turn. All who are in the way are asked at once, so no chain of movers
        # meets the same shortage twice: checked one by one, the moves still hold when all are made together.
        asked_by = {applicant: None}
        asked = [applicant]
        at = 0
        while at < len(asked):
            mover = asked[at]
            for day in self.wishes[mover]:
                if self.has_room(mover, day):
                    self.move_chain(mover, day, asked_by)
                    return True
                for other in self.in_the_way(mover, day):
                    if other not in asked_by:
                        asked_by[other] = mover
                        asked.append(other)
            at += 1
        return False

    def move_chain(self, mover, day, asked_by):
        """Give the mover the day, whoever asked them the day that they leave, and so on."""
        while mover is not None:
            left = self.day_of.get(mover)
            self.day_of[mover] = day
            day = left
            mover = asked_by[mover]


def wishes_of(house, applicants):
    """The days on which each can come, by applicant."""
    wishes = {}
    for applicant in applicants:
        wishes[applicant] = house.days_of[applicant]
    return wishes


def can_be_served(house, wishes):
    giving = Giving(house, wishes)
    for applicant in wishes:
        if not giving.take_in(applicant):
            return False
    return True


def served(house):
    """Those served, in the row's order."""
    giving = Giving(house, wishes_of(house, house.row))
    taken = []
    for applicant in house.row:
        if giving.take_in(applicant):
            taken.append(applicant)
    return taken


def least_day(house, wishes, applicant):
    """The least day for the applicant with which all can be served; None if there is none."""
    for day in wishes[applicant]:
        narrowed = dict(wishes)
        narrowed[applicant] = [day]
        if can_be_served(house, narrowed):
            return day
    return None


def told_giving(house, applicants):
    """The day of each, by applicant, for those who can be served together, told in the row's order."""
    wishes = wishes_of(house, applicants)
    told = {}
    for applicant in applicants:
        day = least_day(house, wishes, applicant)
        # Those behind must do with the days that are given already.
        wishes[applicant] = [day]
        told[applicant] = day
    return told


def loads_of(house, day_of):
    """For each day a list: how many come on it, then how many of them of each kind."""
    loads = [[0] * (1 + KINDS) for day in range(house.day_count)]
    for applicant in day_of:
        load = loads[day_of[applicant]]
        load[0] += 1
        load[1 + house.kind_of[applicant]] += 1
    return loads


def is_giving(house, day_of):
    """Whether all can come on the days told by applicant, and no day gets more than it may."""
    for applicant in day_of:
        if day_of[applicant] not in house.days_of[applicant]:
            return False
    for day, load in enumerate(loads_of(house, day_of)):
        for many, most in zip(load, house.limits_of(day)):
            if many > most:
                return False
    return True
