"""ask, to house, to meter, lose, and what happens when a message arrives."""

from postmeters.codes import sealed
from postmeters.lines import ask_arrives, grant_arrives
from tests.helper import (
    KEY, METER, CallCase, ask_row, code, entries_behind, grant_row, imprint_row, last, picture, refill, run, world_behind,
)

LOADED = METER + refill(5000)
ASKED = METER + [("ask", 1, 300)]
GRANTED = ASKED + [("to_house", 1)]


def arrive(calls, message):
    """What comes of an ask that arrives at the house behind these calls: entries told, and all there is."""
    world = world_behind(calls)
    return ask_arrives(world, message), picture(world)


def bank_of(calls):
    """The bank that counts in the first meter."""
    return world_behind(calls).meters[0].memory.counting_bank()


class Ask(CallCase):
    def test_number_and_ask(self):
        self.assertEqual(last(METER + [("ask", 1, 300)]), [1] + ask_row(KEY, 1, 1, 300, 0))
        self.assertEqual(last(METER + [("ask", 1, 1)]), [1] + ask_row(KEY, 1, 1, 1, 0))
        self.assertEqual(last(METER + [("ask", 1, 90000)]), [1] + ask_row(KEY, 1, 1, 90000, 0))

    def test_code_by_hand(self):
        # 7, 218, 6759, 209530 less 199982, 296288 less 199982, 2985486 less 2899739.
        self.assertEqual(last(METER + [("ask", 1, 300)]), [1, 5, 1, 1, 300, 0, 85747])

    def test_sum_is_rising_and_falling(self):
        calls = LOADED + [("imprint", 1, 700, 7), ("ask", 1, 40)]
        self.assertEqual(last(calls), [2] + ask_row(KEY, 1, 2, 40, 5000))

    def test_of_the_bank_that_counts(self):
        calls = METER + refill(90000) + [("ask", 1, 80000), ("to_house", 1), ("to_meter", 1, 5), ("boot", 1), ("ask", 1, 9)]
        self.assertEqual(last(calls), [2] + ask_row(KEY, 1, 2, 9, 90000))

    def test_range(self):
        self.range_refused(METER, ("ask", 1, 5), 2, 1, 90000)

    def test_off(self):
        self.refused(LOADED + [("imprint", 1, 5, 0)], ("ask", 1, 5), -3)

    def test_full_line(self):
        asks = METER + [("meter", 1, 8)] + [("ask", 1, 5)] * 15
        self.taken(asks, ("ask", 2, 5), 1)
        self.refused(asks + [("ask", 2, 5)], ("ask", 1, 5), -8)
        self.refused(asks + [("ask", 2, 5)], ("ask", 2, 5), -8)
        self.taken(asks + [("ask", 2, 5), ("lose", 0, 4)], ("ask", 1, 5), 1)

    def test_order_of_refusals(self):
        self.refused(METER, ("ask", 0, 0), -1)
        self.refused(METER, ("ask", 2, 90001), -1)
        self.refused(METER, ("ask", 11, 5), -1)
        off = LOADED + [("ask", 1, 5)] * 16 + [("imprint", 1, 5, 0)]
        self.refused(off, ("ask", 1, 0), -1)
        self.refused(off, ("ask", 2, 5), -4)
        self.refused(off, ("ask", 1, 5), -3)

    def test_put_at_the_end(self):
        asks = world_behind(METER + [("ask", 1, amount) for amount in (5, 3, 4)]).asks
        self.assertEqual([message[2] for message in asks], [5, 3, 4])


class ToHouse(CallCase):
    def test_granted(self):
        calls = METER + [("day", 6), ("ask", 1, 300), ("to_house", 1)]
        self.assertEqual(last(calls), [1] + ask_row(KEY, 1, 1, 300, 0))
        self.assertEqual(entries_behind(calls)[1:], [(6, 1, 3, 300, 1)])
        world = world_behind(calls)
        self.assertEqual((world.asks, world.grants), ([], [[1, 1, 300, code(KEY, 2, 1, 1, 300)]]))
        self.assertEqual(last(calls + [("deposit", 1, 1)]), [99999701])

    def test_the_ith_is_taken(self):
        calls = METER + [("ask", 1, amount) for amount in (5, 3, 4)] + [("to_house", 2)]
        self.assertEqual(last(calls), [1] + ask_row(KEY, 1, 1, 3, 0))
        self.assertEqual([message[2] for message in world_behind(calls).asks], [5, 4])

    def test_refusals(self):
        self.range_refused(ASKED, ("to_house", 1), 1, 1, 16)
        self.refused([], ("to_house", 1), -4)
        self.refused([], ("to_house", 16), -4)
        self.refused(ASKED, ("to_house", 2), -4)
        full = METER + [("ask", 1, 5)] * 16
        self.taken(full, ("to_house", 16), 1)
        self.refused(full[:-1], ("to_house", 16), -4)

    def test_twice_grants_once(self):
        calls = METER + [("ask", 1, 300), ("ask", 1, 300), ("to_house", 1), ("to_house", 1)]
        self.assertEqual([reply[0] for reply in run(calls)[-2:]], [1, 0])
        self.assertEqual(entries_behind(calls)[1:], [(0, 1, 3, 300, 1)])
        self.assertEqual(world_behind(calls).grants, [[1, 1, 300, code(KEY, 2, 1, 1, 300)]] * 2)

    def test_again_with_another_amount_the_granted_one_is_told(self):
        calls = METER + [("ask", 1, 300), ("ask", 1, 45), ("to_house", 1), ("to_house", 1), ("to_meter", 2, 6)]
        self.assertEqual(last(calls), [0] + grant_row(KEY, 1, 1, 300))

    def test_again_with_too_little_in_the_account(self):
        calls = [("account",), ("deposit", 1, 300), ("meter", 1, KEY), ("ask", 1, 300), ("ask", 1, 300)]
        calls += [("to_house", 1), ("lose", 1, 1), ("to_house", 1), ("to_meter", 1, 6)]
        self.assertEqual(last(calls), [0] + grant_row(KEY, 1, 1, 300))

    def test_late(self):
        calls = METER + [("ask", 1, 300), ("ask", 1, 300), ("to_house", 1), ("to_meter", 1, 6)]
        again = calls + [("to_house", 1)]
        self.assertEqual(last(again)[0], 0)
        self.assertEqual(world_behind(again).grants, [[1, 1, 300, code(KEY, 2, 1, 1, 300)]])
        later = calls + [("ask", 1, 40), ("to_house", 2), ("to_meter", 1, 6), ("to_house", 1)]
        self.assertEqual(last(later), [0] + ask_row(KEY, 1, 1, 300, 0))
        self.assertEqual(world_behind(later).grants, [])
        self.assertEqual(len(entries_behind(later)), 3)

    def test_stopped(self):
        for calls in (ASKED + [("stop", 1)], METER + [("stop", 1), ("ask", 1, 300)], GRANTED + [("ask", 1, 300), ("stop", 1)]):
            told = last(calls + [("to_house", 1)])
            self.assertEqual(told, [0] + ask_row(KEY, 1, 1, 300, 0))
            before = world_behind(calls)
            before.asks.pop()
            self.assertEqual(picture(world_behind(calls + [("to_house", 1)])), picture(before))

    def test_handed_in(self):
        calls = ASKED + [("stop", 1), ("withdraw", 1), ("to_house", 1)]
        self.assertEqual(last(calls), [0] + ask_row(KEY, 1, 1, 300, 0))
        self.assertEqual((len(entries_behind(calls)), world_behind(calls).grants), (2, []))

    def test_off_is_granted(self):
        calls = LOADED + [("ask", 1, 300), ("imprint", 1, 5, 1), ("to_house", 1)]
        self.assertEqual(last(calls)[0], 1)

    def test_meter_that_is_not_there(self):
        for meter in (0, 2, 10, -1):
            message = sealed(1, [meter, 1, 300, 0], KEY)
            self.assertEqual(arrive(METER, message), (0, picture(world_behind(METER))))

    def test_wrong_code(self):
        right = sealed(1, [1, 1, 300, 0], KEY)
        self.assertEqual(arrive(METER, right)[0], 1)
        wrong = [right[:4] + [(right[4] + n) % 99991] for n in (1, 99990)]
        wrong += [right[:2] + [301] + right[3:], sealed(2, [1, 1, 300, 0], KEY), sealed(1, [1, 1, 300, 0], KEY + 1)]
        for message in wrong:
            self.assertEqual(arrive(METER, message), (0, picture(world_behind(METER))))

    def test_wrong_code_of_the_refill_granted_last(self):
        message = sealed(1, [1, 1, 300, 0], KEY + 1)
        self.assertEqual(arrive(GRANTED, message), (0, picture(world_behind(GRANTED))))

    def test_wrong_sum(self):
        for calls, number, total in ((METER, 1, 1), (METER, 1, -1), (LOADED, 2, 4999), (LOADED, 2, 5001), (LOADED, 2, 0)):
            message = sealed(1, [1, number, 300, total], KEY)
            self.assertEqual(arrive(calls, message), (0, picture(world_behind(calls))))
        self.assertEqual(arrive(LOADED, sealed(1, [1, 2, 300, 5000], KEY))[0], 1)

    def test_the_sum_is_of_this_meter_alone(self):
        calls = LOADED + [("meter", 1, 9), ("ask", 2, 40), ("to_house", 1)]
        self.assertEqual(last(calls), [1] + ask_row(9, 2, 1, 40, 0))

    def test_the_sum_of_the_refill_granted_last_is_not_asked(self):
        message = sealed(1, [1, 1, 7, 12345], KEY)
        told, behind = arrive(GRANTED, message)
        self.assertEqual(told, 0)
        self.assertEqual(behind["grants"], [[1, 1, 300, code(KEY, 2, 1, 1, 300)]] * 2)

    def test_wrong_number(self):
        for calls, numbers in ((METER, (-1, 0, 2, 3)), (LOADED + refill(6), (0, 1, 4))):
            total = sum(world_behind(calls).journal.granted(1))
            for number in numbers:
                message = sealed(1, [1, number, 300, total], KEY)
                self.assertEqual(arrive(calls, message), (0, picture(world_behind(calls))), number)

    def test_too_little_in_the_account(self):
        poor = [("account",), ("deposit", 1, 300), ("meter", 1, KEY)]
        self.assertEqual(last(poor + [("ask", 1, 300), ("to_house", 1)])[0], 1)
        calls = poor + [("ask", 1, 301), ("to_house", 1)]
        self.assertEqual(last(calls), [0] + ask_row(KEY, 1, 1, 301, 0))
        self.assertEqual(picture(world_behind(calls)), picture(world_behind(poor)))

    def test_another_accounts_coins_do_not_help(self):
        calls = [("account",), ("account",), ("deposit", 1, 300), ("meter", 2, KEY), ("ask", 1, 1), ("to_house", 1)]
        self.assertEqual(last(calls)[0], 0)

    def test_full_line_of_grants(self):
        calls = METER + [("meter", 1, 9)] + [("ask", 1, 300), ("to_house", 1)] * 16
        self.assertEqual(len(world_behind(calls).grants), 16)
        again = calls + [("ask", 1, 300), ("to_house", 1)]
        self.assertEqual(last(again)[0], 0)
        self.assertEqual(picture(world_behind(again)), picture(world_behind(calls)))
        other = calls + [("ask", 2, 40), ("to_house", 1)]
        self.assertEqual(last(other), [1] + ask_row(9, 2, 1, 40, 0))
        self.assertEqual(world_behind(other).grants, world_behind(calls).grants)
        self.assertEqual(entries_behind(other)[-1], (0, 1, 3, 40, 2))
        once_more = other + [("lose", 1, 16), ("ask", 2, 40), ("to_house", 1), ("to_meter", 16, 6)]
        self.assertEqual(last(once_more), [0] + grant_row(9, 2, 1, 40))


class ToMeter(CallCase):
    def test_arrives(self):
        self.assertEqual(last(GRANTED + [("to_meter", 1, 6)]), [0] + grant_row(KEY, 1, 1, 300))
        calls = GRANTED + [("to_meter", 1, 6), ("imprint", 1, 300, 7)]
        self.assertEqual(last(calls), [1] + imprint_row(KEY, 1, 1, 300, 0))
        self.assertEqual(world_behind(calls).grants, [])

    def test_no_entry(self):
        self.assertEqual(entries_behind(GRANTED + [("to_meter", 1, 6)]), entries_behind(GRANTED))

    def test_the_ith_is_taken(self):
        calls = METER + [("meter", 1, 9), ("ask", 1, 5), ("ask", 2, 6), ("to_house", 1), ("to_house", 1), ("to_meter", 2, 6)]
        self.assertEqual(last(calls), [0] + grant_row(9, 2, 1, 6))
        self.assertEqual([message[0] for message in world_behind(calls).grants], [1])

    def test_refusals(self):
        self.range_refused(GRANTED, ("to_meter", 1, 6), 1, 1, 16)
        self.range_refused(GRANTED, ("to_meter", 1, 6), 2, 0, 6)
        self.refused([], ("to_meter", 1, 6), -4)
        self.refused(GRANTED, ("to_meter", 2, 6), -4)
        self.refused(ASKED, ("to_meter", 1, 6), -4)
        full = METER + [("ask", 1, 300), ("to_house", 1)] * 16
        self.taken(full, ("to_meter", 16, 0), 0)
        self.refused(full[:-1], ("to_meter", 16, 6), -4)

    def test_order_of_refusals(self):
        self.refused([], ("to_meter", 1, 7), -1)
        self.refused([], ("to_meter", 0, 6), -1)

    def test_each_cut_with_boot_behind(self):
        old = [2, 0, 5000, 0, 1]
        new = [3, 0, 5300, 0, 2]
        spare = [
            [1, 0, 0, 0, 0], [0, 0, 0, 0, 0], [0, 0, 0, 0, 0], [0, 0, 5300, 0, 0], [0, 0, 5300, 0, 0],
            [0, 0, 5300, 0, 2], new,
        ]
        for k in range(7):
            with self.subTest(k=k):
                calls = LOADED + [("ask", 1, 300), ("to_house", 1), ("to_meter", 1, k)]
                meter = world_behind(calls).meters[0]
                self.assertEqual((meter.memory.first, meter.memory.second), (spare[k], old))
                self.assertEqual(meter.on, k == 6)
                if k == 6:
                    self.refused(calls, ("boot", 1), -5)
                else:
                    self.assertEqual(last(calls + [("boot", 1)]), [0, 5] + old)
                    self.refused(calls, ("imprint", 1, 1, 7), -3)

    def test_each_word_of_a_used_meter(self):
        calls = LOADED + [("imprint", 1, 700, 7), ("imprint", 1, 20, 7), ("ask", 1, 300), ("to_house", 1)]
        banks = [
            [3, 700, 4300, 1, 1], [0, 700, 4300, 1, 1], [0, 720, 4300, 1, 1], [0, 720, 4580, 1, 1], [0, 720, 4580, 2, 1],
            [0, 720, 4580, 2, 2], [5, 720, 4580, 2, 2],
        ]
        for k, bank in enumerate(banks):
            memory = world_behind(calls + [("to_meter", 1, k)]).meters[0].memory
            self.assertEqual((memory.first, memory.second), (bank, [4, 720, 4280, 2, 1]), k)

    def test_two_cuts_one_behind_the_other(self):
        for first in range(6):
            for second in range(7):
                with self.subTest(first=first, second=second):
                    calls = LOADED + [("ask", 1, 300), ("ask", 1, 300), ("to_house", 1), ("to_house", 1)]
                    calls += [("to_meter", 1, first), ("boot", 1), ("to_meter", 1, second)]
                    bank = [3, 0, 5300, 0, 2] if second == 6 else [2, 0, 5000, 0, 1]
                    self.assertEqual(bank_of(calls), bank)
                    mixed = calls[:-1] + [("imprint", 1, 50, second), ("boot", 1)]
                    bank = [3, 50, 4950, 1, 1] if second == 6 else [2, 0, 5000, 0, 1]
                    self.assertEqual(last(mixed), [0, 5] + bank)

    def test_cut_then_asked_again(self):
        calls = GRANTED + [("to_meter", 1, 4), ("boot", 1), ("ask", 1, 80), ("to_house", 1), ("to_meter", 1, 6)]
        self.assertEqual(run(calls)[-2], [0] + ask_row(KEY, 1, 1, 80, 0))
        self.assertEqual(last(calls), [0] + grant_row(KEY, 1, 1, 300))
        self.assertEqual(bank_of(calls), [2, 0, 300, 0, 1])

    def test_twice_counts_once(self):
        calls = METER + [("ask", 1, 300), ("to_house", 1)] * 2 + [("to_meter", 1, 6), ("to_meter", 1, 6)]
        self.assertEqual(run(calls)[-2:], [[0] + grant_row(KEY, 1, 1, 300)] * 2)
        self.assertEqual(bank_of(calls), [2, 0, 300, 0, 1])

    def test_one_that_does_nothing_turns_nothing_off(self):
        for k in range(7):
            calls = METER + [("ask", 1, 300), ("to_house", 1)] * 2 + [("to_meter", 1, 6)]
            before = world_behind(calls)
            before.grants.pop()
            self.assertEqual(picture(world_behind(calls + [("to_meter", 1, k)])), picture(before))

    def test_at_a_meter_that_is_off(self):
        calls = LOADED + [("ask", 1, 300), ("to_house", 1), ("imprint", 1, 5, 0)]
        for k in range(7):
            before = world_behind(calls)
            before.grants.pop()
            self.assertEqual(last(calls + [("to_meter", 1, k)]), [0] + grant_row(KEY, 1, 2, 300))
            self.assertEqual(picture(world_behind(calls + [("to_meter", 1, k)])), picture(before))

    def test_at_a_meter_that_is_stopped(self):
        self.assertEqual(bank_of(GRANTED + [("stop", 1), ("to_meter", 1, 6)]), [2, 0, 300, 0, 1])

    def test_at_a_meter_handed_in(self):
        calls = GRANTED + [("stop", 1), ("withdraw", 1), ("to_meter", 1, 6)]
        self.assertEqual(last(calls), [0] + grant_row(KEY, 1, 1, 300))
        self.assertEqual(bank_of(calls), [1, 0, 0, 0, 0])

    def test_wrong_messages(self):
        right = sealed(2, [1, 2, 300], KEY)
        wrong = [sealed(2, [1, number, 300], KEY) for number in (-1, 0, 1, 3)]
        wrong += [sealed(2, [meter, 2, 300], KEY) for meter in (-1, 0, 2)]
        wrong += [right[:3] + [(right[3] + 1) % 99991], right[:2] + [301] + right[3:], sealed(1, [1, 2, 300], KEY)]
        for message in wrong + [right]:
            world = world_behind(LOADED)
            grant_arrives(world, message, 6)
            changed = picture(world) != picture(world_behind(LOADED))
            self.assertEqual(changed, message == right, message)


class Lose(CallCase):
    def test_taken_off(self):
        calls = METER + [("ask", 1, amount) for amount in (5, 3, 4)] + [("lose", 0, 2)]
        self.assertEqual(last(calls), [0])
        self.assertEqual([message[2] for message in world_behind(calls).asks], [5, 4])

    def test_each_line(self):
        calls = GRANTED + [("ask", 1, 9)]
        world = world_behind(calls + [("lose", 0, 1)])
        self.assertEqual((len(world.asks), len(world.grants)), (0, 1))
        world = world_behind(calls + [("lose", 1, 1)])
        self.assertEqual((len(world.asks), len(world.grants)), (1, 0))
        self.assertEqual(picture(world.meters), picture(world_behind(calls).meters))

    def test_refusals(self):
        both = GRANTED + [("ask", 1, 9)]
        self.range_refused(both, ("lose", 0, 1), 1, 0, 1)
        for line in (0, 1):
            self.range_refused(both, ("lose", line, 1), 2, 1, 16)
            self.refused([], ("lose", line, 1), -4)
            self.refused(both, ("lose", line, 2), -4)
            self.refused(both, ("lose", line, 16), -4)
        self.taken(METER + [("ask", 1, 5)] * 16, ("lose", 0, 16), 0)
        self.taken(METER + [("ask", 1, 5), ("to_house", 1)] * 16, ("lose", 1, 16), 0)

    def test_order_of_refusals(self):
        self.refused([], ("lose", 2, 1), -1)
        self.refused([], ("lose", -1, 1), -1)
        self.refused([], ("lose", 0, 17), -1)
