"""The interface: what is handed in, what is given back, and that nothing else happens."""

import contextlib
import io
import sys
import unittest

from postmeters.house import answers
from postmeters.world import MOST_BALANCE
from tests.helper import KEY, LEAST, METER, MOST, flat, grant_row, imprint_row, last, refill, run, world_behind

SESSION = METER + refill(5000) + [
    ("day", 3), ("imprint", 1, 120, 7), ("imprint", 1, 9, 4), ("boot", 1), ("voucher", 5, 70), ("redeem", 1, "V0000000059"),
    ("redeem", 1, "x"), ("ask", 1, 8), ("lose", 0, 1), ("stop", 1), ("withdraw", 1),
]


class SealedList(list):
    """A list that fails when it is changed, even if the change is taken back."""

    def fail(self, *parts):
        raise AssertionError("the list handed in was changed")

    append = extend = insert = pop = remove = clear = sort = reverse = fail
    __setitem__ = __delitem__ = __iadd__ = __imul__ = fail


class Picker:
    """The same row of numbers each time, spread over what is asked for."""

    def __init__(self, start):
        self.now = start

    def pick(self, least, most):
        self.now = (self.now * 1103515245 + 12345) % 2 ** 31
        return least + (self.now >> 8) % (most - least + 1)


def mixed_calls(start, length):
    """A list of so many calls, most of them on meters and lines."""
    picker = Picker(start)
    calls = [("account",), ("account",), ("deposit", 1, 40000000), ("deposit", 2, 300)]
    calls += [("meter", 1, 77), ("meter", 2, 1000000), ("meter", 1, 99991)]
    while len(calls) < length:
        meter = picker.pick(1, 3)
        choices = [
            ("ask", meter, picker.pick(1, 900)), ("ask", meter, picker.pick(1, 900)), ("to_house", picker.pick(1, 3)),
            ("to_house", 1), ("to_meter", picker.pick(1, 3), picker.pick(0, 6)), ("to_meter", 1, 6),
            ("imprint", meter, picker.pick(1, 300), picker.pick(0, 7)), ("imprint", meter, picker.pick(1, 300), 7),
            ("boot", meter), ("boot", meter), ("lose", picker.pick(0, 1), picker.pick(1, 4)), ("day", picker.pick(0, 2)),
            ("deposit", picker.pick(1, 2), picker.pick(1, 90)), ("voucher", picker.pick(0, 60), 5),
        ]
        if len(calls) > length * 3 // 4:
            choices += [("stop", meter), ("withdraw", meter)]
        calls.append(choices[picker.pick(0, len(choices) - 1)])
    return calls


class Form(unittest.TestCase):
    def test_calls_as_they_are_handed_in(self):
        calls = [0, 2, 3, 1, 100000, 4, 5, 70, 5, 1, 11, 86, 48, 48, 48, 48, 48, 48, 48, 48, 53, 57]
        calls += [6, 1, 5, 11, 1, 1000, 12, 1, 13, 1, 6, 9, 1, 100, 7, 9, 1, 100, 0, 10, 1, 11, 1, 9, 14, 0, 1]
        calls += [7, 1, 8, 1, 1, 30]
        told = [1, 0, 1, 1, 1, 100000, 13, 1, 11, 86, 48, 48, 48, 48, 48, 48, 48, 48, 53, 57, 1, 70]
        told += [1, 1, 7, 1, 5, 1, 1, 1000, 0, 43997, 7, 1, 5, 1, 1, 1000, 0, 43997, 6, 0, 4, 1, 1, 1000, 79593]
        told += [22, 1, 20] + list(b"M1.1 V1.00 D0 C63301") + [2, 0, 0, 7, 0, 5, 3, 100, 900, 1, 1]
        told += [7, 2, 5, 1, 2, 9, 1000, 15237, 1, 0, 1, 0, 7, 900, 5, 3, 100, 900, 1, 1, 1, 30]
        self.assertEqual(answers(calls), told)

    def test_refusals_stand_alone(self):
        calls = [1, -1, 3, 1, 5, 5, 1, 0, 6, 1, 1, 7, 1, 8, 0, 9, 1, 1, 8, 10, 11, 11, 1, 1, 12, 1, 13, 1, 6, 14, 2, 1]
        told = [1, -1, 1, -4, 1, -4, 1, -4, 1, -4, 1, -1, 1, -1, 1, -1, 1, -4, 1, -4, 1, -4, 1, -1]
        self.assertEqual(answers(calls), told)

    def test_the_widest_numbers(self):
        calls = [1, LEAST, 1, MOST, 3, MOST, LEAST, 5, LEAST, 0, 9, LEAST, MOST, LEAST, 13, MOST, LEAST, 1, 0]
        self.assertEqual(answers(calls), [1, -1, 1, -1, 1, -1, 1, -1, 1, -1, 1, -1, 1, 0])

    def test_texts_are_skipped_whole(self):
        for text in ([], [0], [5, 1, 3], list(range(256)), [255] * 1000):
            self.assertEqual(answers([2, 5, 1, len(text)] + text + [1, 7]), [1, 1, 1, -2, 1, 7])

    def test_whole_numbers_alone_are_given_back(self):
        for calls in (SESSION, mixed_calls(5, 400)):
            told = answers(flat(calls))
            self.assertIs(type(told), list)
            self.assertEqual({type(number) for number in told}, {int})


class NothingElse(unittest.TestCase):
    def test_the_list_stays_as_it_was(self):
        calls = flat(SESSION)
        kept = list(calls)
        told = answers(calls)
        self.assertEqual(calls, kept)
        self.assertEqual(answers(SealedList(calls)), told)

    def test_what_is_given_back_is_new(self):
        calls = flat(SESSION)
        told = answers(calls)
        kept = list(told)
        told.clear()
        self.assertEqual(answers(calls), kept)

    def test_nothing_is_kept(self):
        alone = answers([1, 0, 2, 4, 5, 70, 7, 1, 12, 1])
        answers(flat(SESSION))
        self.assertEqual(answers([1, 0, 2, 4, 5, 70, 7, 1, 12, 1]), alone)
        self.assertEqual(answers(flat(SESSION)), answers(flat(SESSION)))

    def test_nothing_is_printed_read_or_imported(self):
        out = io.StringIO()
        modules = set(sys.modules)
        given = sys.stdin
        sys.stdin = None
        try:
            with contextlib.redirect_stdout(out), contextlib.redirect_stderr(out):
                answers(flat(SESSION))
        finally:
            sys.stdin = given
        self.assertEqual(out.getvalue(), "")
        self.assertEqual(set(sys.modules), modules)


class LongLists(unittest.TestCase):
    def test_four_hundred_imprints(self):
        calls = METER + refill(90000) + [("imprint", 1, 200 + place, 7) for place in range(394)]
        told = run(calls)
        self.assertEqual(len(told), 400)
        spent = 0
        for place, reply in enumerate(told[6:]):
            spent += 200 + place
            right = [-7] if spent > 90000 else [1] + imprint_row(KEY, 1, place + 1, 200 + place, 0)
            if spent > 90000:
                spent -= 200 + place
            self.assertEqual(reply, right, place)

    def test_a_hundred_refills(self):
        told = run(METER + [call for place in range(130) for call in refill(place + 1)])
        self.assertEqual(told[-1], [0] + grant_row(KEY, 1, 130, 130))

    def test_sixteen_thousand_numbers(self):
        calls = [("account",)] + [("redeem", 1, [86] * 1000)] * 15
        self.assertEqual(run(calls), [[1]] + [[-2]] * 15)

    def test_begin_between(self):
        calls = [("account",), ("begin",)] * 200
        self.assertEqual(run(calls), [[1], [0]] * 200)

    def test_coins_are_neither_made_nor_lost(self):
        refills = 0
        for start in range(40):
            calls = mixed_calls(start, 400)
            world = world_behind(calls)
            for meter in world.meters:
                bank = meter.memory.counting_bank()
                granted = world.journal.granted(meter.number)
                self.assertEqual(bank[1] + bank[2], sum(granted[:bank[4]]))
                self.assertIn(bank[4], (len(granted), len(granted) - 1))
                self.assertGreaterEqual(bank[2], 0)
                refills += bank[4]
            self.check_balances(world, calls)
        self.assertGreater(refills, 200)

    def check_balances(self, world, calls):
        for account in (1, 2):
            paid = sum(e.amount for e in world.journal.entries if e.account == account and e.kind == 1)
            held = 0
            for meter in world.meters:
                if meter.account == account:
                    bank = meter.memory.counting_bank()
                    unread = sum(world.journal.granted(meter.number)[bank[4]:])
                    held += bank[1] + (0 if meter.handed_in else bank[2] + unread)
            balance = world.journal.balance(account)
            self.assertEqual(balance + held, paid)
            self.assertTrue(0 <= balance <= MOST_BALANCE)
            self.assertEqual(last(calls + [("deposit", account, 1)]), [balance + 1])
