"""Mixed lists of 400 calls, held against what their own answers add up to."""

import unittest

from postmeters.house import answers
from postmeters.world import MOST_BALANCE
from tests.helper import flat, last, made, run, world_behind

KEYS = {1: 77, 2: 1000000, 3: 99991}
ACCOUNTS = {1: 1, 2: 2, 3: 1}
VOUCHERS = ("V0000000000", "V0000000018", "V0000000059", "V0000000109", "V0000000604", "V0000000605")


class Picker:
    """The same row of numbers each time, spread over what is asked for."""

    def __init__(self, start):
        self.now = start

    def pick(self, least, most):
        self.now = (self.now * 1103515245 + 12345) % 2 ** 31
        return least + (self.now >> 8) % (most - least + 1)

    def one_of(self, choices):
        return choices[self.pick(0, len(choices) - 1)]


def good_calls(picker, meter):
    return [
        ("ask", meter, picker.pick(1, 900)), ("ask", meter, picker.pick(1, 900)), ("to_house", picker.pick(1, 3)),
        ("to_house", 1), ("to_meter", picker.pick(1, 3), picker.pick(0, 6)), ("to_meter", 1, 6),
        ("imprint", meter, picker.pick(1, 300), picker.pick(0, 7)), ("imprint", meter, picker.pick(1, 300), 7),
        ("boot", meter), ("boot", meter), ("lose", picker.pick(0, 1), picker.pick(1, 4)), ("day", picker.pick(0, 2)),
        ("deposit", picker.pick(1, 2), picker.pick(1, 90)), ("voucher", picker.pick(0, 60), 5),
    ]


def bad_line_calls(picker):
    line = picker.pick(0, 1)
    place = picker.pick(1, 3)
    return [("double", line, place), ("garble", line, place, picker.pick(1, 99990)), ("lose", line, place)]


def text_calls(picker, meter):
    """Imprints of few pieces, so that some come twice; some with a wrong code, some that aren't read."""
    key = KEYS[meter] + (picker.pick(0, 4) == 0)
    text = made(picker.pick(1, 20), picker.pick(1, 300), picker.pick(0, 20), meter, key)
    voucher = picker.one_of(VOUCHERS)
    return [
        ("scan", text), ("scan", text), ("spoil", picker.pick(1, 2), text), ("spoil", ACCOUNTS[meter], text), ("judge", text),
        ("judge", text + "0"), ("voucher", int(voucher[1:10]), 30), ("redeem", picker.pick(1, 2), voucher), ("check", voucher),
        ("text", meter, picker.pick(0, 9), 5, 5),
    ]


def report_calls(picker, meter):
    return [
        ("registers", meter), ("banks", meter), ("told", meter), ("balance", picker.pick(1, 3)), ("lines",), ("counts",),
        ("statement", picker.pick(1, 2), picker.pick(0, 40)),
    ]


def mixed_calls(start, length):
    """A list of so many calls, most of them on meters and lines."""
    picker = Picker(start)
    calls = [("account",), ("account",), ("deposit", 1, 40000000), ("deposit", 2, 300)]
    calls += [("meter", ACCOUNTS[meter], KEYS[meter]) for meter in (1, 2, 3)]
    while len(calls) < length:
        meter = picker.pick(1, 3)
        groups = [good_calls(picker, meter)] * 6 + [bad_line_calls(picker), text_calls(picker, meter), report_calls(picker, meter)]
        choices = picker.one_of(groups)
        if len(calls) > length * 3 // 4:
            choices = choices + [("stop", meter), ("withdraw", meter)]
        calls.append(picker.one_of(choices))
    return calls


def rows_of(reply):
    """The rows behind an answer's number; none behind a refusal."""
    rows = []
    place = 1
    while place < len(reply):
        rows.append(reply[place + 1:place + 1 + reply[place]])
        place += 1 + reply[place]
    return rows


class Tally:
    """What there must be by the answers of the calls so far, but for the grants on their line."""

    def __init__(self):
        self.last_of = {"day": 0, "account": 0, "meter": 0, "voucher": 0}
        self.balances = {1: 0, 2: 0}
        self.rows = {1: [], 2: []}
        self.asks = []
        self.seen = 0
        self.spoiled = 0

    def enter(self, account, kind, amount, number):
        self.balances[account] += -amount if kind == 3 else amount
        self.rows[account].append([self.last_of["day"], kind, amount, number])

    def granted(self, meter):
        return [amount for day, kind, amount, number in self.rows[ACCOUNTS[meter]] if kind == 3 and number == meter]

    def take(self, call, reply):
        if reply[0] < 0:
            return
        name = call[0]
        if name in self.last_of:
            self.last_of[name] = reply[0]
        if name == "deposit":
            self.enter(call[1], 1, call[2], 0)
        if name == "redeem":
            self.enter(call[1], 2, reply[0], int(call[2][1:10]))
        if name == "withdraw":
            self.enter(ACCOUNTS[call[1]], 4, reply[0], call[1])
        if name == "spoil":
            self.spoiled += 1
            self.enter(call[1], 5, reply[0], int(call[2][1]))
        if name == "scan" and reply[0] == 1:
            self.seen += 1
        self.take_asks(call, reply)

    def take_asks(self, call, reply):
        if call[0] == "ask":
            self.asks.append(rows_of(reply)[0])
        if call[0] == "to_house":
            message = self.asks.pop(call[1] - 1)
            if message != rows_of(reply)[0]:
                raise AssertionError((call, reply, message))
            if reply[0]:
                self.enter(ACCOUNTS[message[0]], 3, message[2], message[0])
        if call[:2] == ("lose", 0):
            self.asks.pop(call[2] - 1)
        if call[:2] == ("double", 0):
            self.asks.append(list(self.asks[call[2] - 1]))
        if call[:2] == ("garble", 0):
            message = self.asks[call[2] - 1]
            message[2] = (message[2] + call[3]) % 99991


class MixedLists(unittest.TestCase):
    def test_reports_tell_what_the_answers_add_up_to(self):
        times = {}
        for start in range(30):
            calls = mixed_calls(start, 400)
            tally = Tally()
            for call, reply in zip(calls, run(calls)):
                tally.take(call, reply)
                self.check_report(tally, call, reply)
                if reply[0] >= 0:
                    times[call[0]] = times.get(call[0], 0) + 1
            for call in (("counts",), ("lines",), ("balance", 1), ("balance", 2), ("statement", 1, 1), ("statement", 2, 1)):
                self.check_report(tally, call, last(calls + [call]))
        self.assertEqual([name for name in times if times[name] < 30], [])
        self.assertEqual(len(times), 28)

    def check_report(self, tally, call, reply):
        rows = rows_of(reply)
        if call[0] == "counts":
            entries = len(tally.rows[1]) + len(tally.rows[2])
            right = [tally.last_of[name] for name in ("account", "meter", "voucher")] + [entries, len(tally.asks)]
            self.assertEqual((reply[0], rows[0][:5]), (tally.last_of["day"], right))
            self.assertEqual(rows[0][6:], [tally.seen, tally.spoiled])
        if call[0] == "lines":
            self.assertEqual(reply[0], len(rows))
            self.assertEqual(rows[:len(tally.asks)], tally.asks)
            self.assertTrue(all(len(row) == 4 for row in rows[len(tally.asks):]))
        if call[0] == "balance":
            self.assertEqual(reply, [tally.balances[call[1]]] if call[1] < 3 else [-4])
        if call[0] == "statement":
            told = tally.rows[call[1]][call[2] - 1:call[2] + 49]
            self.assertEqual((reply[0], rows), (len(told), told) if call[2] else (-1, []))
        if call[0] == "told" and rows:
            self.assertEqual((reply[0], rows[0]), (ACCOUNTS[call[1]], tally.granted(call[1])))
        if call[0] == "registers" and rows:
            rising, falling, piece, refills = rows[0]
            self.assertEqual(rising + falling, sum(tally.granted(call[1])[:refills]))

    def test_lines_and_counts_agree(self):
        for start in range(10):
            calls = mixed_calls(start, 398)
            lines, counts = run(calls + [("lines",), ("counts",)])[-2:]
            lengths = [len(row) for row in rows_of(lines)]
            self.assertEqual(rows_of(counts)[0][4:6], [lengths.count(5), lengths.count(4)])

    def test_reports_change_nothing(self):
        reports = ("judge", "registers", "banks", "told", "balance", "statement", "lines", "counts", "text", "check")
        for start in range(10):
            told = list(zip(mixed_calls(start, 400), run(mixed_calls(start, 400))))
            kept = [pair for pair in told if pair[0][0] not in reports]
            self.assertLess(len(kept), 390)
            self.assertEqual(run([call for call, reply in kept]), [reply for call, reply in kept])

    def test_refused_calls_change_nothing(self):
        for start in range(10):
            told = list(zip(mixed_calls(start, 400), run(mixed_calls(start, 400))))
            kept = [pair for pair in told if pair[1][0] >= 0]
            self.assertLess(len(kept), 390)
            self.assertEqual(run([call for call, reply in kept]), [reply for call, reply in kept])

    def test_whole_numbers_alone_are_given_back(self):
        told = answers(flat(mixed_calls(5, 400)))
        self.assertEqual({type(number) for number in told}, {int})

    def test_coins_are_neither_made_nor_lost(self):
        refills = 0
        for start in range(40):
            calls = mixed_calls(start, 400)
            world = world_behind(calls)
            for meter in world.meters:
                bank = meter.memory.counting_bank()
                granted = world.journal.granted(meter.number)
                self.assertEqual(bank[1] + bank[2], sum(granted[:bank[4]]))
                self.assertIn(bank[4], (len(granted), len(granted) - 1))
                self.assertGreaterEqual(bank[2], 0)
                refills += bank[4]
            self.check_balances(world, calls)
        self.assertGreater(refills, 200)

    def check_balances(self, world, calls):
        for account in (1, 2):
            paid = sum(e.amount for e in world.journal.entries if e.account == account and e.kind in (1, 2, 5))
            held = 0
            for meter in world.meters:
                if meter.account == account:
                    bank = meter.memory.counting_bank()
                    unread = sum(world.journal.granted(meter.number)[bank[4]:])
                    held += bank[1] + (0 if meter.handed_in else bank[2] + unread)
            balance = world.journal.balance(account)
            self.assertEqual(balance + held, paid)
            self.assertTrue(0 <= balance <= MOST_BALANCE)
            self.assertEqual(last(calls + [("deposit", account, 1)]), [balance + 1])
