"""The ranges of the numbers in calls, and the numbers that stand for something else."""

MOST_DAYS = 8
KINDS = 4
MOST_PLACES = 9
MOST_OF_KIND = 9
MOST_IN_ROW = 8
MOST_APPLIED = 20

OUT_OF_RANGE = -1
LIST_NOT_AS_TOLD = -2
NOT_THERE = -4
SAME_APPLICANT = -5
NO_MORE_APPLY = -7

# In the list of check, in the answer of lacking, and in the answer of far.
NO_DAY = -1
ANY_KIND = -1
NO_PLACE = -1


def is_within(number, least, greatest):
    return least <= number <= greatest


def is_day(number):
    return is_within(number, 0, MOST_DAYS - 1)


def is_kind(number):
    return is_within(number, 0, KINDS - 1)


def is_applicant(number):
    return is_within(number, 0, MOST_APPLIED - 1)


def is_rising(numbers):
    for place in range(1, len(numbers)):
        if numbers[place - 1] >= numbers[place]:
            return False
    return True
