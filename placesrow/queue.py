"""The interface: a line of calls in, its answers out."""

from placesrow.calls import answer_next
from placesrow.house import House
from placesrow.reader import Reader


def answers(calls):
    """For each call in the list, in order: how many numbers are answered, then these."""
    house = House()
    reader = Reader(calls)
    answered = []
    while not reader.is_at_end():
        answer = answer_next(house, reader)
        answered.append(len(answer))
        answered.extend(answer)
    return answered
