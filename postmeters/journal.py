"""The journal: entries in order, and what they add up to."""

PAID_IN = 1
VOUCHER_USED = 2
REFILL_GRANTED = 3
HANDED_IN = 4
SPOILED = 5


class Entry:
    def __init__(self, day, account, kind, amount, number):
        self.day = day
        self.account = account
        self.kind = kind
        self.amount = amount
        self.number = number


class Journal:
    def __init__(self):
        self.entries = []

    def enter(self, day, account, kind, amount, number):
        self.entries.append(Entry(day, account, kind, amount, number))

    def entries_of(self, account):
        return [entry for entry in self.entries if entry.account == account]

    def balance(self, account):
        total = 0
        for entry in self.entries_of(account):
            total += -entry.amount if entry.kind == REFILL_GRANTED else entry.amount
        return total

    def granted(self, meter):
        """The amounts of the refills granted to the meter, in order."""
        refills = [entry for entry in self.entries if entry.kind == REFILL_GRANTED]
        return [entry.amount for entry in refills if entry.number == meter]
