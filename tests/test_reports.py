"""registers, banks, told, balance, statement, lines, counts."""

from tests.helper import KEY, METER, CallCase, ask_row, code, grant_row, last, made, picture, refill, run, world_behind

LOADED = METER + refill(5000)
TEN_METERS = METER + [("meter", 1, 8)] * 9
TEN_ACCOUNTS = [("account",)] * 10
HANDED_IN = LOADED + [("stop", 1), ("withdraw", 1)]


class ReportCase(CallCase):
    def tells(self, before, call, reply):
        """The call behind these answers so, and changes nothing."""
        with self.subTest(call=call, before=before[-3:]):
            self.assertEqual(last(before + [call]), reply)
            self.assertEqual(picture(world_behind(before + [call])), picture(world_behind(before)))

    def meter_refused(self, call):
        """The refusals of a call on the meter alone."""
        self.range_refused(TEN_METERS, call, 1, 1, 10)
        self.taken(TEN_METERS, call[:1] + (10,), 1)
        self.refused(TEN_METERS[:-1], call[:1] + (10,), -4)
        self.refused(METER, call[:1] + (2,), -4)
        self.refused([], call, -4)
        self.refused(HANDED_IN, call, -4)


class Registers(ReportCase):
    def test_at_first(self):
        self.tells(METER, ("registers", 1), [1, 4, 0, 0, 0, 0])

    def test_used(self):
        calls = LOADED + [("imprint", 1, 700, 7), ("imprint", 1, 20, 7)]
        self.tells(calls, ("registers", 1), [1, 4, 720, 4280, 2, 1])
        self.tells(calls + refill(9), ("registers", 1), [1, 4, 720, 4289, 2, 2])

    def test_of_each_meter(self):
        calls = LOADED + [("meter", 1, 8)] + refill(30, 2)
        self.tells(calls, ("registers", 1), [1, 4, 0, 5000, 0, 1])
        self.tells(calls, ("registers", 2), [1, 4, 0, 30, 0, 1])

    def test_off_and_of_the_bank_that_counts(self):
        for k in range(7):
            right = [0, 4, 700, 4300, 1, 1] if k == 6 else [0, 4, 0, 5000, 0, 1]
            self.tells(LOADED + [("imprint", 1, 700, k)], ("registers", 1), right)
            self.tells(LOADED + [("imprint", 1, 700, k), ("boot", 1)], ("registers", 1), [1] + right[1:])

    def test_stopped(self):
        self.tells(LOADED + [("stop", 1)], ("registers", 1), [1, 4, 0, 5000, 0, 1])

    def test_refusals(self):
        self.meter_refused(("registers", 1))


class Banks(ReportCase):
    def test_at_first(self):
        self.tells(METER, ("banks", 1), [1, 5, 1, 0, 0, 0, 0, 5, 0, 0, 0, 0, 0])

    def test_the_first_is_told_first(self):
        self.tells(LOADED, ("banks", 1), [1, 5, 1, 0, 0, 0, 0, 5, 2, 0, 5000, 0, 1])
        calls = LOADED + [("imprint", 1, 700, 7)]
        self.tells(calls, ("banks", 1), [1, 5, 3, 700, 4300, 1, 1, 5, 2, 0, 5000, 0, 1])

    def test_behind_each_cut(self):
        banks = [
            [1, 0, 0, 0, 0], [0, 0, 0, 0, 0], [0, 700, 0, 0, 0], [0, 700, 4300, 0, 0], [0, 700, 4300, 1, 0],
            [0, 700, 4300, 1, 1], [3, 700, 4300, 1, 1],
        ]
        for k, bank in enumerate(banks):
            self.tells(LOADED + [("imprint", 1, 700, k)], ("banks", 1), [0, 5, *bank, 5, 2, 0, 5000, 0, 1])

    def test_refusals(self):
        self.meter_refused(("banks", 1))


class Told(ReportCase):
    def test_nothing_granted_not_stopped(self):
        self.tells(METER, ("told", 1), [1, 0, 0])

    def test_granted_in_order(self):
        calls = METER + refill(300) + refill(7) + refill(90000)
        self.tells(calls, ("told", 1), [1, 3, 300, 7, 90000, 0])

    def test_granted_whether_it_came_or_not(self):
        calls = METER + refill(300) + [("ask", 1, 7), ("to_house", 1)]
        self.tells(calls, ("told", 1), [1, 2, 300, 7, 0])
        self.tells(calls + [("garble", 1, 1, 5), ("to_meter", 1, 6)], ("told", 1), [1, 2, 300, 7, 0])

    def test_stopped(self):
        self.tells(METER + [("stop", 1)], ("told", 1), [1, 0, 1, 0])
        calls = LOADED + [("day", 9), ("stop", 1), ("day", 4)]
        self.tells(calls, ("told", 1), [1, 1, 5000, 1, 9])

    def test_account_and_refills_of_each_meter(self):
        calls = [("account",), ("account",), ("deposit", 1, 900), ("deposit", 2, 900), ("meter", 2, 5), ("meter", 1, 5)]
        calls += refill(30, 2) + refill(4, 1) + [("stop", 2)]
        self.tells(calls, ("told", 1), [2, 1, 4, 0])
        self.tells(calls, ("told", 2), [1, 1, 30, 1, 0])

    def test_refusals(self):
        self.meter_refused(("told", 1))


class Balance(ReportCase):
    def test_at_first(self):
        self.tells([("account",)], ("balance", 1), [0])

    def test_each_kind(self):
        calls = [("account",), ("account",), ("deposit", 1, 900), ("meter", 1, KEY)]
        self.tells(calls, ("balance", 1), [900])
        calls += [("voucher", 5, 70), ("redeem", 1, "V0000000059")]
        self.tells(calls, ("balance", 1), [970])
        calls += refill(600)
        self.tells(calls, ("balance", 1), [370])
        calls += [("spoil", 1, made(1))]
        self.tells(calls, ("balance", 1), [465])
        calls += [("imprint", 1, 10, 7), ("stop", 1), ("withdraw", 1)]
        self.tells(calls, ("balance", 1), [1055])
        self.tells(calls, ("balance", 2), [0])

    def test_most(self):
        self.tells([("account",)] + [("deposit", 1, 100000000)] * 10, ("balance", 1), [1000000000])

    def test_refusals(self):
        self.range_refused(TEN_ACCOUNTS, ("balance", 1), 1, 1, 10)
        self.taken(TEN_ACCOUNTS, ("balance", 10), 0)
        self.refused(TEN_ACCOUNTS[:-1], ("balance", 10), -4)
        self.refused([], ("balance", 1), -4)


class Statement(ReportCase):
    kinds = [
        ("account",), ("account",), ("deposit", 1, 900), ("day", 2), ("voucher", 5, 70), ("redeem", 1, "V0000000059"),
        ("deposit", 2, 33), ("meter", 2, 3), ("meter", 1, KEY), ("ask", 2, 600), ("to_house", 1), ("to_meter", 1, 6), ("day", 1),
        ("spoil", 1, made(1, meter=2)), ("day", 1), ("stop", 2), ("withdraw", 2),
    ]
    rows = [[0, 1, 900, 0], [2, 2, 70, 5], [2, 3, 600, 2], [3, 5, 95, 2], [4, 4, 600, 2]]

    def told(self, rows):
        return [len(rows)] + [number for row in rows for number in [len(row)] + row]

    def test_each_kind(self):
        self.tells(self.kinds, ("statement", 1, 1), self.told(self.rows))
        self.tells(self.kinds, ("statement", 2, 1), self.told([[2, 1, 33, 0]]))

    def test_from_each_entry(self):
        for start in range(1, 9):
            self.tells(self.kinds, ("statement", 1, start), self.told(self.rows[start - 1:]))

    def test_none(self):
        self.tells([("account",)], ("statement", 1, 1), [0])
        self.tells([("account",)], ("statement", 1, 1000), [0])

    def test_behind_the_last(self):
        self.tells(self.kinds, ("statement", 1, 5), self.told(self.rows[4:]))
        self.tells(self.kinds, ("statement", 1, 6), [0])
        self.tells(self.kinds, ("statement", 1, 1000), [0])

    def test_at_most_fifty(self):
        for length in (49, 50, 51, 52, 120):
            calls = [("account",), ("account",)]
            for place in range(length):
                calls += [("deposit", 1, place + 1), ("deposit", 2, 7)]
            rows = [[0, 1, place + 1, 0] for place in range(length)]
            for start in (1, 2, 3, 50, 51, 52, 71, 72, 120):
                self.tells(calls, ("statement", 1, start), self.told(rows[start - 1:start + 49]))

    def test_refusals(self):
        self.range_refused(self.kinds, ("statement", 1, 1), 2, 1, 1000)
        self.range_refused(TEN_ACCOUNTS, ("statement", 1, 1), 1, 1, 10)
        self.taken(TEN_ACCOUNTS, ("statement", 10, 1000), 0)
        self.refused(TEN_ACCOUNTS[:-1], ("statement", 10, 1000), -4)
        self.refused([], ("statement", 1, 1), -4)

    def test_order_of_refusals(self):
        for account, start in ((1, 0), (1, 1001), (0, 1), (11, 1), (0, 0), (11, 1001)):
            self.refused([], ("statement", account, start), -1)


class Lines(ReportCase):
    def test_nothing(self):
        self.tells([], ("lines",), [0])

    def test_asks_then_grants(self):
        calls = METER + [("meter", 1, 9), ("ask", 2, 6), ("ask", 1, 300), ("to_house", 2), ("ask", 1, 40)]
        right = [3] + ask_row(9, 2, 1, 6, 0) + ask_row(KEY, 1, 1, 40, 0) + grant_row(KEY, 1, 1, 300)
        self.tells(calls, ("lines",), right)
        self.tells(calls + [("lose", 1, 1)], ("lines",), [2] + right[1:-5])
        self.tells(calls + [("lose", 0, 1), ("lose", 0, 1)], ("lines",), [1] + right[-5:])

    def test_in_order(self):
        calls = METER + [("ask", 1, amount) for amount in (5, 3, 4)] + [("double", 0, 1), ("lose", 0, 2)]
        right = [3] + ask_row(KEY, 1, 1, 5, 0) + ask_row(KEY, 1, 1, 4, 0) + ask_row(KEY, 1, 1, 5, 0)
        self.tells(calls, ("lines",), right)

    def test_garbled(self):
        calls = METER + [("ask", 1, 5), ("to_house", 1), ("ask", 1, 5), ("garble", 0, 1, 99986), ("garble", 1, 1, 2)]
        ask = [5, 1, 1, 0, 0, code(KEY, 1, 1, 1, 5, 0)]
        self.tells(calls, ("lines",), [2] + ask + [4, 1, 1, 7, code(KEY, 2, 1, 1, 5)])

    def test_both_full(self):
        calls = METER + [("ask", 1, 5), ("to_house", 1)] * 16 + [("ask", 1, 8)] * 16
        right = [32] + ask_row(KEY, 1, 1, 8, 0) * 16 + grant_row(KEY, 1, 1, 5) * 16
        self.tells(calls, ("lines",), right)


class Counts(ReportCase):
    def test_nothing(self):
        self.tells([], ("counts",), [0, 8, 0, 0, 0, 0, 0, 0, 0, 0])

    def test_each_by_itself(self):
        calls = [("account",), ("account",), ("deposit", 1, 900), ("deposit", 1, 900)]
        steps = [
            (("day", 5), [5, 8, 2, 0, 0, 2, 0, 0, 0, 0]),
            (("account",), [5, 8, 3, 0, 0, 2, 0, 0, 0, 0]),
            (("meter", 1, KEY), [5, 8, 3, 1, 0, 2, 0, 0, 0, 0]),
            (("voucher", 5, 70), [5, 8, 3, 1, 1, 2, 0, 0, 0, 0]),
            (("redeem", 1, "V0000000059"), [5, 8, 3, 1, 1, 3, 0, 0, 0, 0]),
            (("ask", 1, 30), [5, 8, 3, 1, 1, 3, 1, 0, 0, 0]),
            (("double", 0, 1), [5, 8, 3, 1, 1, 3, 2, 0, 0, 0]),
            (("to_house", 1), [5, 8, 3, 1, 1, 4, 1, 1, 0, 0]),
            (("double", 1, 1), [5, 8, 3, 1, 1, 4, 1, 2, 0, 0]),
            (("scan", made(1)), [5, 8, 3, 1, 1, 4, 1, 2, 1, 0]),
            (("scan", made(1)), [5, 8, 3, 1, 1, 4, 1, 2, 1, 0]),
            (("scan", made(2)), [5, 8, 3, 1, 1, 4, 1, 2, 2, 0]),
            (("judge", made(3)), [5, 8, 3, 1, 1, 4, 1, 2, 2, 0]),
            (("spoil", 1, made(3)), [5, 8, 3, 1, 1, 5, 1, 2, 2, 1]),
            (("scan", made(3)), [5, 8, 3, 1, 1, 5, 1, 2, 2, 1]),
            (("stop", 1), [5, 8, 3, 1, 1, 5, 1, 2, 2, 1]),
            (("withdraw", 1), [5, 8, 3, 1, 1, 6, 1, 2, 2, 1]),
        ]
        for call, counts in steps:
            calls = calls + [call]
            self.tells(calls, ("counts",), counts)

    def test_the_most(self):
        calls = TEN_ACCOUNTS + [("meter", 1, 8)] * 10 + [("voucher", number, 5) for number in range(50)]
        self.tells(calls + [("day", 1000)] * 100, ("counts",), [100000, 8, 10, 10, 50, 0, 0, 0, 0, 0])

    def test_refusals_count_nothing(self):
        calls = METER + [("scan", [0] * 201), ("spoil", 2, made(1)), ("deposit", 1, 0), ("account",), ("spoil", 2, made(1))]
        self.assertEqual(run(calls + [("counts",)])[-6:-1], [[-1], [-4], [-1], [2], [-6]])
        self.tells(calls, ("counts",), [0, 8, 2, 1, 0, 1, 0, 0, 0, 0])
