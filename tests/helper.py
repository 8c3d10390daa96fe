"""What the tests share: calls in words, answers call by call, and an own search over all givings."""

import itertools
import random
from functools import lru_cache

from placesrow.queue import answers

GREATEST = 10 ** 18


def house(many):
    return [0, many]


def places(day, many):
    return [1, day, many]


def quota(kind, day, many):
    return [2, kind, day, many]


def apply(kind, days):
    return [3, kind, len(days), *days]


def leave(x):
    return [4, x]


def ahead(x, y):
    return [5, x, y]


ROW = [6]
SERVED = [7]
DAYS = [8]


def why(x):
    return [9, x]


def can(applicants):
    return [10, len(applicants), *applicants]


def room(applicants):
    return [11, len(applicants), *applicants]


def check(days):
    return [12, len(days), *days]


def would(kind, days):
    return [13, kind, len(days), *days]


def lacking(x):
    return [14, x]


def far(x):
    return [15, x]


LOADS = [16]
TOLD = [17]

# A number that stands in no range, at the ends of what may be handed in.
OUTSIDE = (-GREATEST, -GREATEST + 1, GREATEST - 1, GREATEST)


def flat(calls):
    return [number for call in calls for number in call]


def split(told, many):
    """The answers call by call; an error if the counts in them don't fit."""
    found = []
    at = 0
    while at < len(told):
        end = at + 1 + told[at]
        found.append(told[at + 1:end])
        at = end
    if at != len(told) or len(found) != many:
        raise AssertionError(f"{many} calls, but the answers are {told}")
    return found


def ask(*calls):
    return split(answers(flat(calls)), len(calls))


def last(*calls):
    return ask(*calls)[-1]


class Scene:
    """Days, places, quotas and people, as calls and for the search."""

    def __init__(self, places, people, quotas=None):
        self.places = list(places)
        self.people = [(kind, tuple(days)) for kind, days in people]
        self.quotas = {(k, d): 9 for k in range(4) for d in range(len(self.places))}
        self.quotas.update(quotas or {})
        self.row = list(range(len(self.people)))

    def copy(self):
        other = Scene(self.places, self.people, self.quotas)
        other.row = list(self.row)
        return other

    def calls(self):
        """Calls that make the scene: no more than 1 + 8 + 32 + 8 + 7, and as many as have left."""
        made = [house(len(self.places))]
        made += [places(d, c) for d, c in enumerate(self.places)]
        made += [quota(k, d, q) for (k, d), q in self.quotas.items() if q != 9]
        made += [apply(kind, days) for kind, days in self.people]
        made += [leave(x) for x in range(len(self.people)) if x not in self.row]
        made += [ahead(x, y) for x, y in reversed(list(zip(self.row, self.row[1:])))]
        return made

    def ask(self, *calls):
        """What these calls answer once the scene is made."""
        made = self.calls()
        return ask(*made, *calls)[len(made):]

    def last(self, *calls):
        return self.ask(*calls)[-1]

    def ask_each(self, calls):
        """What these calls answer, in as many lines as they need with 30 of them in each."""
        return [answer for at in range(0, len(calls), 30) for answer in self.ask(*calls[at:at + 30])]

    def served(self):
        answer = self.last(SERVED)
        if answer[0] != len(answer) - 1:
            raise AssertionError(f"served answers {answer}")
        return answer[1:]

    def days(self):
        """The answer of days as pairs of applicant and day."""
        answer = self.last(DAYS)
        if 2 * answer[0] != len(answer) - 1:
            raise AssertionError(f"days answers {answer}")
        return list(zip(answer[1::2], answer[2::2]))


def random_scene(seed):
    source = random.Random(seed)
    if seed % 2:
        return tight_scene(source)
    day_count = source.choice([1, 2, 3, 3, 4, 5, 8])
    people = []
    for x in range(source.randint(0, 8)):
        many = source.randint(1, min(day_count, source.choice([1, 2, 3, 8])))
        people.append((source.randrange(4), sorted(source.sample(range(day_count), many))))
    most = source.choice([1, 2, 3, 9])
    tight = source.choice([0, 1, 2, 9])
    scene = Scene([source.randint(0, most) for d in range(day_count)], people)
    for key in scene.quotas:
        if source.random() < 0.7:
            scene.quotas[key] = source.randint(0, tight)
    source.shuffle(scene.row)
    return scene


def tight_scene(source):
    """About as many places as people, and those who can come on many days ahead: some must make way."""
    day_count = source.randint(2, 8)
    people = []
    for x in range(source.randint(5, 8)):
        many = source.randint(1, min(day_count, 3))
        people.append((source.randrange(source.choice([1, 2, 4])), sorted(source.sample(range(day_count), many))))
    scene = Scene([0] * day_count, sorted(people, key=lambda person: -len(person[1])))
    for x in range(len(people)):
        scene.places[source.randrange(day_count)] += 1
    for key in scene.quotas:
        scene.quotas[key] = source.choice([1, 1, 2, 9])
    return scene


def scenes(many):
    return [random_scene(seed) for seed in range(many)]


def is_giving(scene, applicants, days):
    """Held to the words alone, so that the searches below rest on it."""
    pairs = list(zip(applicants, days))
    if any(d not in scene.people[x][1] for x, d in pairs):
        return False
    for d, most in enumerate(scene.places):
        there = [scene.people[x][0] for x, day in pairs if day == d]
        if len(there) > most or any(there.count(k) > scene.quotas[k, d] for k in range(4)):
            return False
    return True


def every_giving(scene, applicants):
    """All givings, by looking at every choice of days; the least comes first."""
    choices = itertools.product(*[scene.people[x][1] for x in applicants])
    return [days for days in choices if is_giving(scene, applicants, days)]


def least_giving(scene, applicants):
    """The giving that comes first by its days, or None: a search day by day that knows what it has seen."""

    @lru_cache(maxsize=None)
    def rest(at, loads):
        if at == len(applicants):
            return ()
        kind, days = scene.people[applicants[at]]
        for d in days:
            on_day = sum(many for (k, day), many in loads if day == d)
            alike = dict(loads).get((kind, d), 0)
            if on_day < scene.places[d] and alike < scene.quotas[kind, d]:
                then = dict(loads)
                then[kind, d] = alike + 1
                behind = rest(at + 1, tuple(sorted(then.items())))
                if behind is not None:
                    return (d, *behind)
        return None

    return rest(0, ())


def searched_served(scene):
    found = []
    for x in scene.row:
        if least_giving(scene, [*found, x]) is not None:
            found.append(x)
    return found


def parts(applicants):
    """Every part, in the order of the applicants, the empty one too."""
    return [list(part) for many in range(len(applicants) + 1) for part in itertools.combinations(applicants, many)]


def searched_room(scene, applicants):
    """For each day what it adds to the room."""
    added = []
    for d, most in enumerate(scene.places):
        kinds = {scene.people[x][0] for x in applicants if d in scene.people[x][1]}
        added.append(min(most, sum(scene.quotas[k, d] for k in kinds)))
    return added


def is_crowd(scene, applicants):
    return len(applicants) > sum(searched_room(scene, applicants))


def searched_crowd(scene, applicants):
    """Of all crowds in the set those with the fewest, of these the first by their numbers; None if there is none."""
    crowds = [sorted(part) for part in parts(applicants) if is_crowd(scene, part)]
    return min(crowds, key=lambda crowd: (len(crowd), crowd), default=None)
