"""spoil: what is given back for an imprint, and what isn't."""

from tests.helper import KEY, METER, CallCase, code, entries_behind, last, made, picture, run, text_of, world_behind

# Account 2 has a meter too, with the key 8; account 3 has none.
TWO = METER + [("account",), ("account",), ("meter", 2, 8)]
OTHERS = made(1, meter=2, key=8)
FULL = [("deposit", 1, 100000000)] * 9
LONG = [32] * 201
UNREAD = "M1.1 V1.0 D0 C00000"
WRONG_CODE = text_of(1, 1, 100, 0, (code(KEY, 3, 1, 1, 100, 0) + 1) % 99991)


class Spoil(CallCase):
    def test_amount_and_entry(self):
        calls = TWO + [("day", 4), ("spoil", 1, made(1, value=200, day=3)), ("spoil", 2, OTHERS)]
        self.assertEqual(run(calls)[-2:], [[190], [95]])
        self.assertEqual(entries_behind(calls)[1:], [(4, 1, 5, 190, 1), (4, 2, 5, 95, 2)])
        self.assertEqual(run(calls + [("balance", 1), ("balance", 2)])[-2:], [[100000190], [95]])

    def test_given_back_and_the_entry_are_all_that_changes(self):
        world = world_behind(METER)
        world.given_back[(1, 1)] = True
        world.journal.enter(0, 1, 5, 95, 1)
        self.assertEqual(picture(world_behind(METER + [("spoil", 1, made(1))])), picture(world))

    def test_less_the_twentieth_part_rounded_up(self):
        amounts = {
            0: 0, 1: 0, 2: 1, 19: 18, 20: 19, 21: 19, 30: 28, 39: 37, 40: 38, 41: 38, 100: 95, 101: 95, 1000000: 950000,
        }
        for value, amount in amounts.items():
            calls = METER + [("spoil", 1, made(1, value=value))]
            self.assertEqual(last(calls), [amount], value)
            self.assertEqual(entries_behind(calls)[1:], [(0, 1, 5, amount, 1)])

    def test_days(self):
        for day, today in ((0, 0), (0, 30), (0, 31), (0, 60), (5, 65)):
            self.taken(METER + [("day", today)], ("spoil", 1, made(1, day=day)), 95)
        for day, today in ((0, 61), (0, 62), (5, 66), (0, 1000)):
            self.refused(METER + [("day", today)], ("spoil", 1, made(1, day=day)), -7)

    def test_text_too_long(self):
        for length in (201, 1000):
            self.refused(METER, ("spoil", 1, [32] * length), -1)
        self.refused(METER, ("spoil", 1, [32] * 200), -2)

    def test_account(self):
        ten = METER + [("account",)] * 9 + [("meter", 10, 8)]
        self.range_refused(ten, ("spoil", 1, made(1)), 1, 1, 10)
        self.taken(ten, ("spoil", 10, OTHERS), 95)
        self.refused(METER, ("spoil", 2, made(1)), -4)
        self.refused(METER, ("spoil", 10, made(1)), -4)
        self.refused([], ("spoil", 1, made(1)), -4)

    def test_not_read(self):
        for text in ("", UNREAD, made(1) + "0", "V0000000000"):
            self.refused(METER, ("spoil", 1, text), -2)

    def test_another_accounts_meter(self):
        self.refused(TWO, ("spoil", 2, made(1)), -6)
        self.refused(TWO, ("spoil", 3, made(1)), -6)
        self.refused(TWO, ("spoil", 1, OTHERS), -6)
        self.taken(TWO, ("spoil", 2, OTHERS), 95)

    def test_meter_that_was_never_there(self):
        for meter in (0, 3, 10, 11, 999999999):
            self.refused(TWO, ("spoil", 1, made(1, meter=meter)), -6)

    def test_meter_handed_in(self):
        calls = TWO + [("stop", 1), ("withdraw", 1), ("stop", 2), ("withdraw", 2)]
        self.assertEqual(last(calls + [("spoil", 1, made(1))]), [95])
        self.assertEqual(entries_behind(calls + [("spoil", 1, made(1))])[-1], (0, 1, 5, 95, 1))
        self.refused(calls, ("spoil", 1, OTHERS), -6)

    def test_wrong_code(self):
        self.refused(METER, ("spoil", 1, WRONG_CODE), -7)
        self.refused(METER + [("day", 40)], ("spoil", 1, WRONG_CODE), -7)

    def test_stopped_before(self):
        calls = METER + [("day", 5), ("stop", 1), ("day", 5)]
        self.taken(calls, ("spoil", 1, made(1, day=5)), 95)
        self.refused(calls, ("spoil", 1, made(1, day=6)), -7)
        self.refused(calls + [("day", 40)], ("spoil", 1, made(1, day=6)), -7)

    def test_later_than_today(self):
        self.refused(METER + [("day", 5)], ("spoil", 1, made(1, day=6)), -7)
        self.taken(METER + [("day", 5)], ("spoil", 1, made(1, day=5)), 95)

    def test_seen(self):
        calls = METER + [("scan", made(1))]
        for today in (0, 30, 31, 60):
            self.refused(calls + [("day", today)], ("spoil", 1, made(1)), -7)
        self.taken(calls, ("spoil", 1, made(2)), 95)

    def test_twice(self):
        calls = METER + [("spoil", 1, made(1))]
        for today in (0, 30, 31, 60):
            self.refused(calls + [("day", today)], ("spoil", 1, made(1)), -7)
        old = METER + [("day", 45), ("spoil", 1, made(1))]
        self.assertEqual(last(old), [95])
        self.refused(old, ("spoil", 1, made(1)), -7)

    def test_told_by_meter_and_piece(self):
        for first in (("scan", made(1)), ("spoil", 1, made(1))):
            calls = TWO + [("day", 2), first]
            self.refused(calls, ("spoil", 1, made(1, value=5, day=2)), -7)
            self.taken(calls, ("spoil", 2, OTHERS), 95)

    def test_spoiled_then_scanned_then_spoiled(self):
        calls = METER + [("spoil", 1, made(1)), ("scan", made(1)), ("spoil", 1, made(1))]
        self.assertEqual(run(calls)[-3:], [[95], [9, 0], [-7]])

    def test_most_balance(self):
        nearly = METER + FULL[:-1]
        self.taken(nearly + [("deposit", 1, 99999905)], ("spoil", 1, made(1)), 95)
        self.refused(nearly + [("deposit", 1, 99999906)], ("spoil", 1, made(1)), -8)
        self.refused(METER + FULL, ("spoil", 1, made(1, value=2)), -8)
        self.taken(METER + FULL, ("spoil", 1, made(1, value=1)), 0)

    def test_greatest_value(self):
        # Of the first 52631579 are taken off, of the second no more.
        self.taken([("account",), ("meter", 1, KEY)], ("spoil", 1, made(1, value=1052631579)), 1000000000)
        self.refused([("account",), ("meter", 1, KEY)], ("spoil", 1, made(1, value=1052631580)), -8)
        self.refused([("account",), ("meter", 1, KEY)], ("spoil", 1, made(1, value=99999999999)), -8)

    def test_refused_as_too_much_it_can_still_be_scanned(self):
        calls = METER + FULL + [("spoil", 1, made(1)), ("scan", made(1))]
        self.assertEqual(run(calls)[-2:], [[-8], [1, 1, 100]])

    def test_order_of_refusals(self):
        for account in (0, 1, 11):
            self.refused([], ("spoil", account, LONG), -1)
        self.refused([], ("spoil", 0, UNREAD), -1)
        self.refused([], ("spoil", 1, UNREAD), -4)
        self.refused(METER, ("spoil", 2, made(1)), -4)
        self.refused(METER, ("spoil", 1, LONG), -1)
        full = TWO + FULL
        self.refused(full, ("spoil", 1, UNREAD), -2)
        self.refused(full, ("spoil", 1, made(1, meter=2, key=9)), -6)
        self.refused(full + [("day", 61)], ("spoil", 1, OTHERS), -6)
        self.refused(full + [("scan", OTHERS)], ("spoil", 1, OTHERS), -6)
        self.refused(full, ("spoil", 1, WRONG_CODE), -7)
        self.refused(full + [("day", 61)], ("spoil", 1, made(1)), -7)
        self.refused(full + [("scan", made(1))], ("spoil", 1, made(1)), -7)
