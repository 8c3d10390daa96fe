"""Reading the numbers of a line, one behind another."""


class Reader:
    """A place in a list of numbers, which moves on as they are taken; the list stays as it is."""

    def __init__(self, numbers):
        self.numbers = numbers
        self.at = 0

    def is_at_end(self):
        return self.at >= len(self.numbers)

    def take_number(self):
        number = self.numbers[self.at]
        self.at += 1
        return number

    def take_list(self):
        """The numbers of a list, before which stands how many they are."""
        many = self.take_number()
        begin = self.at
        self.at += many
        return self.numbers[begin:self.at]
