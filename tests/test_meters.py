"""meter, stop, withdraw, imprint, boot."""

from tests.helper import KEY, METER, CallCase, entries_behind, imprint_row, last, refill, run, world_behind

FULL = [("account",)] + [("deposit", 1, 100000000)] * 10
LOADED = METER + refill(5000)
GONE = METER + [("stop", 1), ("withdraw", 1)]


class NewMeter(CallCase):
    def test_numbers_and_the_limit(self):
        calls = [("account",), ("account",)] + [("meter", 2, 7), ("meter", 1, 1000000)] * 5
        self.assertEqual(run(calls)[2:], [[number] for number in range(1, 11)])
        self.refused(calls, ("meter", 1, 7), -8)

    def test_at_first(self):
        meter = world_behind([("account",), ("account",), ("meter", 2, 55)]).meters[0]
        self.assertEqual((meter.account, meter.key, meter.on, meter.stopped_on, meter.handed_in), (2, 55, True, None, False))
        self.assertEqual((meter.memory.first, meter.memory.second), ([1, 0, 0, 0, 0], [0, 0, 0, 0, 0]))

    def test_ranges(self):
        self.range_refused([("account",)], ("meter", 1, 7), 1, 1, 10)
        self.range_refused([("account",)], ("meter", 1, 7), 2, 1, 1000000)
        self.taken([("account",)], ("meter", 1, 1), 1)
        self.taken([("account",)] * 10, ("meter", 10, 1000000), 1)

    def test_account_that_is_not_there(self):
        self.refused([], ("meter", 1, 7), -4)
        self.refused([("account",)] * 9, ("meter", 10, 7), -4)

    def test_handed_in_ones_count_too(self):
        ten = [("account",)] + [("meter", 1, 7)] * 10
        self.refused(ten + [("stop", 3), ("withdraw", 3)], ("meter", 1, 7), -8)

    def test_order_of_refusals(self):
        self.refused([], ("meter", 1, 0), -1)
        self.refused([], ("meter", 11, 7), -1)
        ten = [("account",)] + [("meter", 1, 7)] * 10
        self.refused(ten, ("meter", 2, 7), -4)
        self.refused(ten, ("meter", 0, 7), -1)
        self.refused(ten, ("meter", 1, 1000001), -1)


class MeterArgument(CallCase):
    """What "meter" means in each call that has one."""

    calls = (("stop", 1), ("withdraw", 1), ("imprint", 1, 5, 7), ("boot", 1), ("ask", 1, 5))

    def test_range(self):
        for call in self.calls:
            self.range_refused(METER, call, 1, 1, 10)

    def test_not_there(self):
        nine = METER + [("meter", 1, 7)] * 8
        for call in self.calls:
            self.refused([], call, -4)
            self.refused(METER, (call[0], 2) + call[2:], -4)
            self.refused(nine, (call[0], 10) + call[2:], -4)

    def test_handed_in(self):
        for call in self.calls:
            self.refused(GONE, call, -4)

    def test_the_tenth_is_there(self):
        ten = METER + [("meter", 1, 7)] * 9
        self.taken(ten, ("stop", 10), 0)
        self.taken(ten + [("stop", 10)], ("withdraw", 10), 0)
        self.taken(ten + refill(9, 10), ("imprint", 10, 5, 7), 1)
        self.taken(ten + refill(9, 10) + [("imprint", 10, 5, 0)], ("boot", 10), 0)
        self.taken(ten, ("ask", 10, 5), 1)


class Stop(CallCase):
    def test_today(self):
        calls = METER + [("meter", 1, 7), ("stop", 2), ("day", 12), ("stop", 1)]
        self.assertEqual(run(calls)[-3:], [[0], [12], [12]])
        self.assertEqual([meter.stopped_on for meter in world_behind(calls).meters], [12, 0])

    def test_once(self):
        self.refused(METER + [("stop", 1)], ("stop", 1), -5)
        self.refused(METER + [("stop", 1), ("day", 3)], ("stop", 1), -5)

    def test_a_stopped_meter_stays_on(self):
        calls = LOADED + [("stop", 1), ("imprint", 1, 100, 7), ("ask", 1, 5)]
        self.assertEqual(run(calls)[-2], [1] + imprint_row(KEY, 1, 1, 100, 0))
        self.assertEqual(last(calls)[:2], [2, 5])


class Withdraw(CallCase):
    def test_what_is_left(self):
        calls = LOADED + [("imprint", 1, 700, 7), ("day", 3), ("stop", 1), ("day", 2), ("withdraw", 1)]
        self.assertEqual(last(calls), [4300, 5, 3, 700, 4300, 1, 1])
        self.assertEqual(entries_behind(calls)[-1], (5, 1, 4, 4300, 1))
        self.assertEqual(last(calls + [("deposit", 1, 1)]), [100000000 - 700 + 1])

    def test_handed_in_and_off(self):
        meter = world_behind(GONE).meters[0]
        self.assertEqual((meter.handed_in, meter.on), (True, False))

    def test_a_new_meter_gives_nothing_back_but_an_entry(self):
        self.assertEqual(last(GONE), [0, 5, 1, 0, 0, 0, 0])
        self.assertEqual(entries_behind(GONE)[-1], (0, 1, 4, 0, 1))

    def test_not_stopped(self):
        self.refused(LOADED, ("withdraw", 1), -6)

    def test_off_is_let(self):
        self.assertEqual(last(LOADED + [("imprint", 1, 700, 3), ("stop", 1), ("withdraw", 1)]), [5000, 5, 2, 0, 5000, 0, 1])

    def test_the_account_is_the_meters_own(self):
        calls = [("account",), ("account",), ("deposit", 2, 900), ("meter", 2, 7)] + refill(400)
        calls += [("stop", 1), ("withdraw", 1), ("deposit", 1, 1), ("deposit", 2, 1)]
        self.assertEqual(run(calls)[-3:], [[400, 5, 2, 0, 400, 0, 1], [1], [901]])

    def test_refills_that_never_arrived(self):
        lost = LOADED + [("ask", 1, 300), ("to_house", 1), ("lose", 1, 1), ("stop", 1), ("withdraw", 1)]
        self.assertEqual(last(lost), [5300, 5, 2, 0, 5000, 0, 1])
        self.assertEqual(last(lost + [("deposit", 1, 1)]), [100000001])

    def test_a_first_refill_that_never_arrived(self):
        calls = METER + [("ask", 1, 300), ("to_house", 1), ("stop", 1), ("withdraw", 1)]
        self.assertEqual(last(calls), [300, 5, 1, 0, 0, 0, 0])
        self.assertEqual(last(calls + [("to_meter", 1, 6), ("deposit", 1, 1)]), [100000001])

    def test_a_refill_cut_before_it_counted(self):
        for k in range(6):
            calls = METER + [("ask", 1, 300), ("to_house", 1), ("to_meter", 1, k), ("stop", 1), ("withdraw", 1)]
            self.assertEqual(last(calls), [300, 5, 1, 0, 0, 0, 0], k)

    def test_refills_of_other_meters_stay_with_them(self):
        calls = METER + [("meter", 1, 9), ("ask", 2, 300), ("to_house", 1), ("stop", 1), ("withdraw", 1)]
        self.assertEqual(last(calls)[0], 0)

    def test_most_balance(self):
        full = FULL + [("meter", 1, 7)] + refill(90000)
        self.taken(full + [("deposit", 1, 1), ("imprint", 1, 1, 7), ("stop", 1)], ("withdraw", 1), 89999)
        self.taken(full + [("stop", 1)], ("withdraw", 1), 90000)
        self.refused(full + [("deposit", 1, 1), ("stop", 1)], ("withdraw", 1), -8)
        self.refused(full + [("deposit", 1, 90000), ("stop", 1)], ("withdraw", 1), -8)

    def test_most_balance_with_a_refill_that_never_arrived(self):
        full = FULL + [("meter", 1, 7), ("ask", 1, 500), ("to_house", 1), ("stop", 1)]
        self.taken(full, ("withdraw", 1), 500)
        self.refused(full + [("deposit", 1, 1)], ("withdraw", 1), -8)

    def test_nothing_back_at_the_most_balance(self):
        self.taken(FULL + [("meter", 1, 7), ("stop", 1)], ("withdraw", 1), 0)

    def test_order_of_refusals(self):
        self.refused(GONE, ("withdraw", 0), -1)
        full = FULL + [("meter", 1, 7)] + refill(90000) + [("deposit", 1, 90000)]
        self.refused(full, ("withdraw", 1), -6)


class Imprint(CallCase):
    def test_prints(self):
        calls = LOADED + [("imprint", 1, 1, 7), ("day", 40), ("imprint", 1, 4999, 7)]
        self.assertEqual(run(calls)[-3], [1] + imprint_row(KEY, 1, 1, 1, 0))
        self.assertEqual(last(calls), [1] + imprint_row(KEY, 1, 2, 4999, 40))
        self.refused(calls, ("imprint", 1, 1, 7), -7)

    def test_no_entry(self):
        self.assertEqual(entries_behind(LOADED + [("imprint", 1, 100, 7)]), entries_behind(LOADED))

    def test_ranges(self):
        self.range_refused(LOADED, ("imprint", 1, 5, 7), 2, 1, 1000000)
        self.range_refused(LOADED, ("imprint", 1, 5, 7), 3, 0, 7)
        self.taken(LOADED, ("imprint", 1, 1, 7), 1)
        much = METER + refill(90000) * 12
        self.taken(much, ("imprint", 1, 1000000, 7), 1)

    def test_off(self):
        self.refused(LOADED + [("imprint", 1, 5, 6)], ("imprint", 1, 5, 7), -3)

    def test_not_enough(self):
        self.refused(METER, ("imprint", 1, 1, 7), -7)
        self.refused(LOADED, ("imprint", 1, 5001, 7), -7)
        self.refused(LOADED, ("imprint", 1, 5001, 0), -7)
        self.taken(LOADED, ("imprint", 1, 5000, 7), 1)

    def test_order_of_refusals(self):
        off = LOADED + [("imprint", 1, 5, 0)]
        self.refused(METER, ("imprint", 0, 0, 7), -1)
        self.refused(METER, ("imprint", 2, 1, 8), -1)
        self.refused(METER, ("imprint", 2, 1000001, 7), -1)
        self.refused(METER, ("imprint", 11, 1, 7), -1)
        self.refused(off, ("imprint", 2, 9000, 7), -4)
        self.refused(off, ("imprint", 1, 9000, 7), -3)
        self.refused(off, ("imprint", 1, 9000, -1), -1)
        self.refused(METER, ("imprint", 1, 1000001, 7), -1)

    def test_each_cut_with_boot_behind(self):
        old = [2, 0, 5000, 0, 1]
        new = [3, 700, 4300, 1, 1]
        spare = [
            [1, 0, 0, 0, 0], [0, 0, 0, 0, 0], [0, 700, 0, 0, 0], [0, 700, 4300, 0, 0], [0, 700, 4300, 1, 0],
            [0, 700, 4300, 1, 1], new,
        ]
        for k in range(7):
            with self.subTest(k=k):
                calls = LOADED + [("imprint", 1, 700, k), ("boot", 1)]
                memory = world_behind(calls[:-1]).meters[0].memory
                self.assertEqual((memory.first, memory.second), (spare[k], old))
                self.assertEqual(run(calls)[-2:], [[0, 0], [0, 5] + (new if k == 6 else old)])
                self.refused(calls[:-1], ("imprint", 1, 1, 7), -3)
        self.refused(LOADED + [("imprint", 1, 700, 7)], ("boot", 1), -5)
        memory = world_behind(LOADED + [("imprint", 1, 700, 7)]).meters[0].memory
        self.assertEqual((memory.first, memory.second), (new, old))

    def test_the_piece_behind_each_cut(self):
        for k in range(8):
            calls = LOADED + [("imprint", 1, 700, k)] + [("boot", 1)] * (k < 7) + [("imprint", 1, 30, 7)]
            piece = 2 if k >= 6 else 1
            self.assertEqual(last(calls), [1] + imprint_row(KEY, 1, piece, 30, 0), k)

    def test_two_cuts_one_behind_the_other(self):
        for first in range(7):
            for second in range(7):
                with self.subTest(first=first, second=second):
                    calls = LOADED + [("imprint", 1, 700, first), ("boot", 1), ("imprint", 1, 60, second), ("boot", 1)]
                    rising = 700 * (first == 6) + 60 * (second == 6)
                    whole = (first == 6) + (second == 6)
                    self.assertEqual(last(calls), [0, 5, 2 + whole, rising, 5000 - rising, whole, 1])

    def test_words_left_by_two_cuts(self):
        calls = LOADED + [("imprint", 1, 700, 5), ("boot", 1), ("imprint", 1, 60, 2)]
        memory = world_behind(calls).meters[0].memory
        self.assertEqual((memory.first, memory.second), ([0, 60, 4300, 1, 1], [2, 0, 5000, 0, 1]))


class Boot(CallCase):
    def test_on_again(self):
        calls = LOADED + [("imprint", 1, 5, 2), ("boot", 1), ("imprint", 1, 5, 7)]
        self.assertEqual(run(calls)[-2:], [[0, 5, 2, 0, 5000, 0, 1], [1] + imprint_row(KEY, 1, 1, 5, 0)])

    def test_already_on(self):
        self.refused(METER, ("boot", 1), -5)
        self.refused(LOADED + [("imprint", 1, 5, 2), ("boot", 1)], ("boot", 1), -5)

    def test_a_stopped_meter(self):
        self.taken(LOADED + [("imprint", 1, 5, 2), ("stop", 1)], ("boot", 1), 0)

    def test_other_meters_stay_off(self):
        calls = LOADED + [("meter", 1, 9)] + refill(50, 2) + [("imprint", 1, 5, 2), ("imprint", 2, 5, 2), ("boot", 2)]
        self.refused(calls, ("imprint", 1, 5, 7), -3)
