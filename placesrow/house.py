"""What a line of calls is about: the days, the applicants and the row."""

from placesrow.limits import KINDS, MOST_OF_KIND


class House:
    """The days with their places and quotas, all who have applied, and the row."""

    def __init__(self):
        self.renew(1)

    def renew(self, day_count):
        """Begin anew with so many days, without places, and nobody in the row."""
        self.day_count = day_count
        self.places = [0] * day_count
        self.quotas = [[MOST_OF_KIND] * KINDS for day in range(day_count)]
        # Those who left stay in these two, as their numbers are not given again.
        self.kind_of = []
        self.days_of = []
        self.row = []

    def twin(self):
        """Another house in which all is as here, and which may be changed by itself."""
        other = House()
        other.day_count = self.day_count
        other.places = list(self.places)
        other.quotas = [list(quotas) for quotas in self.quotas]
        other.kind_of = list(self.kind_of)
        # Nobody's days are ever changed, so both houses may share them.
        other.days_of = list(self.days_of)
        other.row = list(self.row)
        return other

    def limits_of(self, day):
        """The day's places, then how many of each kind may come."""
        return [self.places[day]] + self.quotas[day]

    def applied(self):
        """How many have applied, with those who left."""
        return len(self.kind_of)

    def admit(self, kind, days):
        """Put a new applicant at the row's end, and give back their number."""
        applicant = self.applied()
        self.kind_of.append(kind)
        self.days_of.append(days)
        self.row.append(applicant)
        return applicant

    def put_ahead(self, applicant, other):
        """Put the applicant just ahead of the other, and give back the place they have then."""
        self.row.remove(applicant)
        place = self.row.index(other)
        self.row.insert(place, applicant)
        return place
