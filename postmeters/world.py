"""All that there is: the day, accounts, meters, vouchers, the journal, two lines, imprints."""

from postmeters.journal import Journal
from postmeters.memory import Memory
from postmeters.replies import NOT_THERE, OUT_OF_RANGE

MOST_ACCOUNTS = 10
MOST_METERS = 10
MOST_BALANCE = 1000000000


class Meter:
    def __init__(self, number, account, key):
        self.number = number
        self.account = account
        self.key = key
        self.memory = Memory()
        self.on = True
        self.stopped_on = None
        self.handed_in = False


class Voucher:
    def __init__(self, value):
        self.value = value
        self.used = False


class World:
    def __init__(self):
        self.begin()

    def begin(self):
        self.day = 0
        self.accounts = 0
        self.meters = []
        self.vouchers = {}
        self.journal = Journal()
        self.asks = []
        self.grants = []
        # Of each imprint a pair of its meter and its piece; True stands behind it.
        self.seen = {}
        self.given_back = {}

    def meter_ever_there(self, number):
        """The meter of that number, handed in or not, None if it was never there."""
        return self.meters[number - 1] if 1 <= number <= len(self.meters) else None

    def find_meter(self, number):
        """The meter of that number, None if it isn't there or is handed in."""
        meter = self.meter_ever_there(number)
        return None if meter is None or meter.handed_in else meter

    def account_refusal(self, account):
        """The refusal that the account's number calls for, 0 if none."""
        if not 1 <= account <= MOST_ACCOUNTS:
            return OUT_OF_RANGE
        return NOT_THERE if account > self.accounts else 0

    def meter_refusal(self, number):
        """The refusal that the meter's number calls for, 0 if none."""
        if not 1 <= number <= MOST_METERS:
            return OUT_OF_RANGE
        return NOT_THERE if self.find_meter(number) is None else 0

    def is_too_much(self, account, amount):
        return self.journal.balance(account) + amount > MOST_BALANCE

    def enter_today(self, account, kind, amount, number):
        self.journal.enter(self.day, account, kind, amount, number)
