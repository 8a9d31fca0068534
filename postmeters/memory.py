"""A meter's memory: two banks of five words, written word by word."""

GEN = 0
RISING = 1
FALLING = 2
PIECE = 3
REFILLS = 4

# A write of so many steps is whole.
WHOLE_WRITE = 6


class Memory:
    def __init__(self):
        self.first = [1, 0, 0, 0, 0]
        self.second = [0, 0, 0, 0, 0]

    def second_counts(self):
        return self.second[GEN] > self.first[GEN]

    def counting_bank(self):
        return self.second if self.second_counts() else self.first

    def spare_bank(self):
        return self.first if self.second_counts() else self.second

    def write(self, rising, falling, piece, refills, k):
        """Write new registers into the spare bank, cut behind k words."""
        bank = self.spare_bank()
        # The gen goes first to 0 and is set last, so that a bank half written never counts.
        steps = [
            (GEN, 0),
            (RISING, rising),
            (FALLING, falling),
            (PIECE, piece),
            (REFILLS, refills),
            (GEN, self.counting_bank()[GEN] + 1),
        ]
        for place, word in steps[:k]:
            bank[place] = word
