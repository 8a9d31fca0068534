"""scan, judge and text, and the nine things that an imprint's text can come to."""

from postmeters.imprints import verdict
from tests.helper import KEY, METER, CallCase, code, imprint_row, last, made, picture, refill, run, text_bytes, text_of, world_behind

UNREAD = "M1.01 V1.00 D0 C00000"


def days(n):
    return [("day", 1000)] * (n // 1000) + [("day", n % 1000)]


def wrong_code(piece, value=100, day=0, meter=1):
    return text_of(meter, piece, value, day, (code(KEY, 3, meter, piece, value, day) + 1) % 99991)


class ImprintCase(CallCase):
    def comes_to(self, before, text, number, row=None):
        """The text comes to this in judge and in scan; judge changes nothing, nor does scan but at a 1."""
        with self.subTest(text=text, number=number):
            told = last(before + [("judge", text)])
            self.assertEqual(told[0], number)
            if row is not None:
                self.assertEqual(told[1:], [len(row)] + row)
            self.assertEqual(picture(world_behind(before + [("judge", text)])), picture(world_behind(before)))
            scanned = last(before + [("scan", text)])
            if number == 1:
                self.assertEqual(scanned, [1, 1, told[4]])
            else:
                self.assertEqual(scanned, [number, 0])
                self.assertEqual(picture(world_behind(before + [("scan", text)])), picture(world_behind(before)))


class ComesTo(ImprintCase):
    def test_counts(self):
        right = [1, 1, 100, 0, code(KEY, 3, 1, 1, 100, 0)]
        self.comes_to(METER, made(1), 1, right)
        # 7, 220, 6821, 211452 less 199982, 355670 less 299973, 1726607 less 1699847.
        self.comes_to(METER, "M1.1 V1.00 D0 C26760", 1, right)

    def test_as_the_meter_prints_it(self):
        calls = METER + refill(5000) + [("day", 8), ("imprint", 1, 1205, 7)]
        text = last(calls)[2:]
        self.comes_to(calls, text, 1, [1, 1, 1205, 8, code(KEY, 3, 1, 1, 1205, 8)])
        self.assertEqual(last(calls + [("scan", text)]), [1, 1, 1205])

    def test_nothing_of_it_need_be_printed(self):
        self.comes_to(METER, made(0, value=0), 1, [1, 0, 0, 0, code(KEY, 3, 1, 0, 0, 0)])
        self.comes_to(METER, made(999999999, value=99999999999), 1)

    def test_not_read(self):
        for text in (UNREAD, "", "x", made(1) + " ", [0] * 200, [255] * 200):
            self.comes_to(METER, text, 2, [])

    def test_no_such_meter(self):
        for meter in (0, 2, 10, 11, 999999999):
            right = [meter, 1, 100, 0, code(KEY, 3, meter, 1, 100, 0)]
            self.comes_to(METER, made(1, meter=meter), 3, right)
        self.comes_to([], made(1), 3)
        ten = METER + [("meter", 1, KEY)] * 9
        self.comes_to(ten, made(1, meter=10), 1)
        self.comes_to(ten, made(1, meter=11), 3)
        self.comes_to(ten, made(1, meter=0), 3)

    def test_meter_handed_in(self):
        calls = METER + [("day", 5), ("stop", 1), ("withdraw", 1)]
        self.comes_to(calls, made(1, day=5), 1)
        self.comes_to(calls + [("day", 1)], made(1, day=6), 5)
        self.comes_to(calls, wrong_code(1), 4)

    def test_wrong_code(self):
        right = code(KEY, 3, 1, 1, 100, 0)
        for wrong in (right - 1, right + 1, 0, 99990, 99991, 99999, code(KEY + 1, 3, 1, 1, 100, 0), code(KEY, 2, 1, 1, 100, 0)):
            self.comes_to(METER, text_of(1, 1, 100, 0, wrong), 4, [1, 1, 100, 0, wrong])
        for changed in ((1, 2, 100, 0), (1, 1, 101, 0), (1, 1, 100, 1)):
            self.comes_to(METER, text_of(*changed, right), 4)
        self.comes_to(METER + [("meter", 1, 8)], text_of(2, 1, 100, 0, right), 4)

    def test_code_is_no_rest(self):
        # A code and 99991 together are five digits too, but not that code.
        key = next(key for key in range(1, 99991) if code(key, 3, 1, 1, 100, 0) == 8)
        calls = [("account",), ("meter", 1, key)]
        self.comes_to(calls, text_of(1, 1, 100, 0, 8), 1)
        self.comes_to(calls, text_of(1, 1, 100, 0, 99999), 4)

    def test_by_the_meters_own_key(self):
        calls = METER + [("meter", 1, 1000000), ("meter", 1, 99991), ("meter", 1, 1)]
        for meter, key in ((1, KEY), (2, 1000000), (2, 90), (3, 99991), (4, 1)):
            self.comes_to(calls, made(5, meter=meter, key=key), 1)
        for meter, key in ((1, 8), (2, KEY), (3, 1), (4, 2)):
            self.comes_to(calls, made(5, meter=meter, key=key), 4)

    def test_stopped_before(self):
        calls = METER + [("day", 5), ("stop", 1), ("day", 5)]
        for day, number in ((0, 1), (4, 1), (5, 1), (6, 5), (7, 5), (10, 5)):
            self.comes_to(calls, made(1, day=day), number)
        at_first = METER + [("stop", 1), ("day", 3)]
        self.comes_to(at_first, made(1, day=0), 1)
        self.comes_to(at_first, made(1, day=1), 5)

    def test_another_meters_stop(self):
        calls = METER + [("meter", 1, 8), ("stop", 2), ("day", 5)]
        self.comes_to(calls, made(1, day=5), 1)
        self.comes_to(calls, made(1, day=5, meter=2, key=8), 5)

    def test_later_than_today(self):
        calls = METER + [("day", 7)]
        for day, number in ((6, 1), (7, 1), (8, 6), (9, 6), (100000, 6), (999999999, 6)):
            self.comes_to(calls, made(1, day=day), number)
        self.comes_to(METER, made(1, day=1), 6)

    def test_thirty_days(self):
        for day, today, number in ((0, 30, 1), (0, 31, 7), (5, 34, 1), (5, 35, 1), (5, 36, 7), (0, 100000, 7)):
            self.comes_to(METER + days(today), made(1, day=day), number)

    def test_seen(self):
        calls = METER + [("scan", made(1))]
        self.comes_to(calls, made(1), 8, [1, 1, 100, 0, code(KEY, 3, 1, 1, 100, 0)])
        self.comes_to(calls + [("day", 30)], made(1), 8)

    def test_given_back(self):
        calls = METER + [("spoil", 1, made(1))]
        self.comes_to(calls, made(1), 9, [1, 1, 100, 0, code(KEY, 3, 1, 1, 100, 0)])
        self.comes_to(calls + [("day", 30)], made(1), 9)

    def test_told_by_meter_and_piece(self):
        for first, number in ((("scan", made(1)), 8), (("spoil", 1, made(1)), 9)):
            calls = METER + [("meter", 1, 8), ("day", 2), first]
            self.comes_to(calls, made(1, value=5, day=2), number)
            self.comes_to(calls, made(2), 1)
            self.comes_to(calls, made(1, meter=2, key=8), 1)
            # Meter 1 with piece 11 is not meter 11 with piece 1.
            self.comes_to(calls, made(11), 1)


class TheFirstThatIsSo(ImprintCase):
    def test_not_read_before_all(self):
        self.comes_to([], UNREAD, 2)
        self.comes_to(METER + [("scan", made(1))], made(1) + " ", 2)

    def test_no_meter_before_the_rest(self):
        calls = METER + [("stop", 1), ("day", 40)]
        for text in (made(1, meter=2, day=50), wrong_code(1, meter=2), made(1, meter=2, day=0)):
            self.comes_to(calls, text, 3)

    def test_wrong_code_before_days_and_use(self):
        self.comes_to(METER + [("stop", 1), ("day", 3)], wrong_code(1, day=2), 4)
        self.comes_to(METER, wrong_code(1, day=1), 4)
        self.comes_to(METER + [("day", 31)], wrong_code(1), 4)
        self.comes_to(METER + [("scan", made(1))], wrong_code(1), 4)
        self.comes_to(METER + [("spoil", 1, made(1))], wrong_code(1), 4)

    def test_stop_before_the_rest(self):
        stopped = METER + [("stop", 1)]
        self.comes_to(stopped, made(1, day=1), 5)
        self.comes_to(stopped + [("day", 40)], made(1, day=1), 5)
        for first in (("scan", made(1)), ("spoil", 1, made(1))):
            self.comes_to(stopped + [first, ("day", 3)], made(1, day=2), 5)

    def test_later_than_today_before_use(self):
        for first in (("scan", made(1)), ("spoil", 1, made(1))):
            self.comes_to(METER + [first], made(1, day=1), 6)

    def test_too_old_before_use(self):
        for first in (("scan", made(1)), ("spoil", 1, made(1))):
            self.comes_to(METER + [first, ("day", 31)], made(1), 7)

    def test_seen_before_given_back(self):
        # No calls bring both about, so the world is set up by hand.
        world = world_behind(METER + [("scan", made(1))])
        world.given_back[(1, 1)] = True
        self.assertEqual(verdict(world, [1, 1, 100, 0, code(KEY, 3, 1, 1, 100, 0)]), 8)


class Scan(ImprintCase):
    def test_value_and_seen_from_now_on(self):
        calls = METER + [("scan", made(1)), ("scan", made(1)), ("scan", made(2, value=1)), ("scan", made(1))]
        self.assertEqual(run(calls)[3:], [[1, 1, 100], [8, 0], [1, 1, 1], [8, 0]])
        self.assertEqual(last(calls + [("counts",)])[-2:], [2, 0])

    def test_seen_is_all_that_changes(self):
        world = world_behind(METER)
        world.seen[(1, 1)] = True
        self.assertEqual(picture(world_behind(METER + [("scan", made(1))])), picture(world))

    def test_one_that_does_not_count_is_not_seen(self):
        calls = METER + [("scan", made(1, day=2)), ("scan", wrong_code(1)), ("scan", made(1, meter=2)), ("day", 2)]
        self.assertEqual(run(calls)[3:6], [[6, 0], [4, 0], [3, 0]])
        self.assertEqual(last(calls + [("scan", made(1, day=2))]), [1, 1, 100])

    def test_given_back_then_scanned(self):
        calls = METER + [("spoil", 1, made(1)), ("scan", made(1)), ("scan", made(1)), ("counts",)]
        self.assertEqual(run(calls)[-4:-1], [[95], [9, 0], [9, 0]])
        self.assertEqual(last(calls)[-2:], [0, 1])

    def test_judged_it_is_not_seen(self):
        self.assertEqual(run(METER + [("judge", made(1)), ("scan", made(1))])[-1], [1, 1, 100])

    def test_value_of_nothing(self):
        self.assertEqual(last(METER + [("scan", made(1, value=0))]), [1, 1, 0])

    def test_length(self):
        for call in ("scan", "judge"):
            for length in (0, 1, 199, 200):
                self.assertEqual(last(METER + [(call, [77] * length)]), [2, 0])
            for length in (201, 1000):
                self.refused(METER, (call, [77] * length), -1)
            self.refused(METER, (call, text_bytes(made(1)) + [32] * 200), -1)


class Text(ImprintCase):
    def test_right_code(self):
        self.assertEqual(last(METER + [("text", 1, 1, 100, 0)]), [0] + imprint_row(KEY, 1, 1, 100, 0))
        self.assertEqual(last(METER + [("text", 1, 1, 100, 0)]), [0, 20] + text_bytes("M1.1 V1.00 D0 C26760"))

    def test_nothing_changes(self):
        self.assertEqual(picture(world_behind(METER + [("text", 1, 1, 100, 0)])), picture(world_behind(METER)))

    def test_greatest_and_least_read_again(self):
        calls = METER + [("meter", 1, 1000000)] * 9 + [("day", 1000)] * 100
        for meter, key in ((1, KEY), (10, 1000000)):
            for piece in (1, 999999999):
                for value in (0, 99999999999):
                    for day, number in ((0, 7), (100000, 1)):
                        told = last(calls + [("text", meter, piece, value, day)])
                        self.assertEqual(told, [0] + imprint_row(key, meter, piece, value, day))
                        right = [meter, piece, value, day, code(key, 3, meter, piece, value, day)]
                        self.comes_to(calls, told[2:], number, right)

    def test_money_and_code_are_padded(self):
        key = next(key for key in range(1, 99991) if code(key, 3, 1, 1, 5, 0) < 10)
        told = last([("account",), ("meter", 1, key), ("text", 1, 1, 5, 0)])
        self.assertEqual(told[:-1], [0, 20] + text_bytes("M1.1 V0.05 D0 C0000"))

    def test_off_and_stopped(self):
        calls = METER + refill(50) + [("imprint", 1, 5, 0), ("stop", 1)]
        self.assertEqual(last(calls + [("text", 1, 3, 4, 5)]), [0] + imprint_row(KEY, 1, 3, 4, 5))

    def test_ranges(self):
        ten = METER + [("meter", 1, 8)] * 9
        call = ("text", 1, 1, 100, 0)
        for place, least, most in ((1, 1, 10), (2, 1, 999999999), (3, 0, 99999999999), (4, 0, 100000)):
            self.range_refused(ten, call, place, least, most)
            self.taken(ten, call[:place] + (least,) + call[place + 1:], 0)
            self.taken(ten, call[:place] + (most,) + call[place + 1:], 0)

    def test_no_such_meter(self):
        self.refused([], ("text", 1, 1, 100, 0), -4)
        self.refused(METER, ("text", 2, 1, 100, 0), -4)
        self.refused(METER, ("text", 10, 1, 100, 0), -4)
        self.refused(METER + [("stop", 1), ("withdraw", 1)], ("text", 1, 1, 100, 0), -4)

    def test_order_of_refusals(self):
        for wrong in ((1, 0, 100, 0), (1, 1, -1, 0), (1, 1, 100, 100001), (0, 1, 100, 0), (11, 1, 100, 0), (11, 0, -1, -1)):
            self.refused([], ("text",) + wrong, -1)
