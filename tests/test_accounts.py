"""begin, day, account, deposit, voucher, redeem, check."""

from tests.helper import (
    LEAST, METER, MOST, CallCase, entries_behind, last, made, picture, refill, run, text_bytes, world_behind,
)

FULL = [("account",)] + [("deposit", 1, 100000000)] * 10


class Begin(CallCase):
    def test_all_is_new(self):
        calls = METER + refill(100) + [
            ("imprint", 1, 30, 7), ("voucher", 5, 10), ("redeem", 1, "V0000000059"), ("voucher", 6, 10), ("day", 9),
            ("ask", 1, 3), ("to_house", 1), ("ask", 1, 4), ("scan", made(1)), ("spoil", 1, made(2)),
        ]
        self.assertEqual(last(calls + [("counts",)]), [9, 8, 1, 1, 2, 5, 1, 1, 1, 1])
        self.assertEqual(last(calls + [("begin",)]), [0])
        self.assertEqual(picture(world_behind(calls + [("begin",)])), picture(world_behind([])))
        self.assertEqual(last(calls + [("begin",), ("counts",)]), [0, 8, 0, 0, 0, 0, 0, 0, 0, 0])

    def test_imprints_are_new(self):
        calls = METER + [("scan", made(1)), ("spoil", 1, made(2)), ("begin",)] + METER
        self.assertEqual(run(calls + [("scan", made(1)), ("scan", made(2))])[-2:], [[1, 1, 100], [1, 1, 100]])

    def test_behind_it_calls_answer_as_at_first(self):
        later = [
            ("day", 0), ("deposit", 1, 5), ("lose", 0, 1), ("lose", 1, 1), ("stop", 1), ("account",), ("meter", 1, 3),
            ("voucher", 5, 10), ("redeem", 1, "V0000000059"), ("ask", 1, 50), ("to_house", 1),
        ]
        before = METER + [("voucher", 5, 10), ("day", 4), ("ask", 1, 3), ("to_house", 1), ("ask", 1, 4), ("begin",)]
        self.assertEqual(run(before + later)[len(before):], run(later))

    def test_as_the_first_call(self):
        self.assertEqual(run([("begin",), ("begin",), ("day", 0)]), [[0], [0], [0]])


class Day(CallCase):
    def test_moves_on(self):
        self.assertEqual(run([("day", 0), ("day", 1), ("day", 30), ("day", 1000)]), [[0], [1], [31], [1031]])

    def test_range(self):
        self.range_refused([("day", 3)], ("day", 0), 1, 0, 1000)

    def test_last_day(self):
        early = [("day", 1000)] * 99 + [("day", 999)]
        self.assertEqual(last(early), [99999])
        self.refused(early, ("day", 2), -8)
        self.taken(early, ("day", 1), 100000)
        self.taken(early + [("day", 1)], ("day", 0), 100000)
        self.refused(early + [("day", 1)], ("day", 1), -8)

    def test_range_is_told_before_too_many_days(self):
        self.refused([("day", 1000)] * 100, ("day", 1001), -1)


class Account(CallCase):
    def test_numbers_and_the_limit(self):
        self.assertEqual(run([("account",)] * 10), [[number] for number in range(1, 11)])
        self.refused([("account",)] * 10, ("account",), -8)


class Deposit(CallCase):
    def test_balance_then(self):
        calls = [("account",), ("account",), ("deposit", 1, 5), ("deposit", 2, 100), ("deposit", 1, 7)]
        self.assertEqual(run(calls)[2:], [[5], [100], [12]])

    def test_entry(self):
        calls = [("account",), ("account",), ("deposit", 2, 5), ("day", 8), ("deposit", 1, 6)]
        self.assertEqual(entries_behind(calls), [(0, 2, 1, 5, 0), (8, 1, 1, 6, 0)])

    def test_ranges(self):
        one = [("account",)]
        self.range_refused(one, ("deposit", 1, 5), 1, 1, 10)
        self.range_refused(one, ("deposit", 1, 5), 2, 1, 100000000)
        self.taken(one, ("deposit", 1, 1), 1)
        self.taken(one, ("deposit", 1, 100000000), 100000000)

    def test_account_that_is_not_there(self):
        self.refused([], ("deposit", 1, 5), -4)
        self.refused([("account",)], ("deposit", 2, 5), -4)
        self.refused([("account",)] * 9, ("deposit", 10, 5), -4)
        self.taken([("account",)] * 10, ("deposit", 10, 5), 5)

    def test_most_balance(self):
        self.assertEqual(last(FULL), [1000000000])
        self.refused(FULL, ("deposit", 1, 1), -8)
        nearly = FULL[:-1] + [("deposit", 1, 99999999)]
        self.refused(nearly, ("deposit", 1, 2), -8)
        self.taken(nearly, ("deposit", 1, 1), 1000000000)
        self.taken(FULL + [("account",)], ("deposit", 2, 1), 1)

    def test_order_of_refusals(self):
        self.refused([], ("deposit", 1, 0), -1)
        self.refused([("account",)], ("deposit", 2, 100000001), -1)
        self.refused([], ("deposit", 11, 5), -1)
        self.refused(FULL, ("deposit", 1, 100000001), -1)
        self.refused(FULL, ("deposit", 2, 100000000), -4)


class Voucher(CallCase):
    def test_count_and_text(self):
        told = run([("voucher", 0, 1), ("voucher", 999999999, 1000000), ("voucher", 123456789, 50)])
        texts = ["V0000000000", "V9999999999", "V1234567897"]
        self.assertEqual(told, [[place + 1, 11] + text_bytes(text) for place, text in enumerate(texts)])

    def test_ranges(self):
        self.range_refused([], ("voucher", 5, 5), 1, 0, 999999999)
        self.range_refused([], ("voucher", 5, 5), 2, 1, 1000000)

    def test_the_same_number_again(self):
        self.refused([("voucher", 5, 7)], ("voucher", 5, 8), -5)
        used = [("account",), ("voucher", 5, 7), ("redeem", 1, "V0000000059")]
        self.refused(used, ("voucher", 5, 7), -5)

    def test_at_most_fifty(self):
        full = [("voucher", number, 5) for number in range(50)]
        self.assertEqual([reply[0] for reply in run(full)], list(range(1, 51)))
        self.refused(full, ("voucher", 50, 5), -8)

    def test_used_ones_count_too(self):
        full = [("account",)] + [("voucher", number, 5) for number in range(50)] + [("redeem", 1, "V0000000059")]
        self.refused(full, ("voucher", 50, 5), -8)

    def test_order_of_refusals(self):
        full = [("voucher", number, 5) for number in range(50)]
        self.refused(full, ("voucher", 49, 5), -5)
        self.refused(full, ("voucher", 49, 0), -1)
        self.refused(full, ("voucher", 1000000000, 5), -1)


class Redeem(CallCase):
    before = [("account",), ("account",), ("voucher", 5, 70), ("voucher", 123456789, 1000000)]

    def test_value_and_entry(self):
        calls = self.before + [("day", 3), ("redeem", 2, "V0000000059"), ("redeem", 1, "V1234567897")]
        self.assertEqual(run(calls)[-2:], [[70], [1000000]])
        self.assertEqual(entries_behind(calls), [(3, 2, 2, 70, 5), (3, 1, 2, 1000000, 123456789)])
        self.assertEqual(last(calls + [("deposit", 2, 1)]), [71])

    def test_account(self):
        self.range_refused(self.before, ("redeem", 1, "V0000000059"), 1, 1, 10)
        self.refused(self.before, ("redeem", 3, "V0000000059"), -4)
        self.taken(self.before, ("redeem", 2, "V0000000059"), 70)

    def test_texts_that_are_not_read(self):
        good = text_bytes("V0000000059")
        wrong = [[], good[:-1], good + [48], good[1:], [86] + good, good[:-1] + [58], good[:-1] + [47], [0] * 11]
        wrong += [[first] + good[1:] for first in (85, 87, 118, 48, 0, 255)]
        wrong += [good[:-1] + [digit] for digit in range(48, 57)]
        for place in range(1, 11):
            wrong += [good[:place] + [byte] + good[place + 1:] for byte in (47, 58, 32, 0, 255)]
        wrong += [good + [48] * 989, [255] * 1000]
        for text in wrong:
            self.refused(self.before, ("redeem", 1, text), -2)

    def test_no_such_voucher(self):
        self.refused(self.before, ("redeem", 1, "V0000000018"), -4)
        self.refused([("account",)], ("redeem", 1, "V0000000000"), -4)

    def test_used_once(self):
        used = self.before + [("redeem", 1, "V0000000059")]
        self.refused(used, ("redeem", 1, "V0000000059"), -5)
        self.refused(used, ("redeem", 2, "V0000000059"), -5)

    def test_most_balance(self):
        vouchers = [("voucher", 5, 70)]
        self.refused(FULL + vouchers, ("redeem", 1, "V0000000059"), -8)
        nearly = vouchers + FULL[:-1]
        self.taken(nearly + [("deposit", 1, 99999930)], ("redeem", 1, "V0000000059"), 70)
        self.refused(nearly + [("deposit", 1, 99999931)], ("redeem", 1, "V0000000059"), -8)

    def test_refused_as_too_much_it_stays_unused(self):
        calls = FULL + [("account",), ("voucher", 5, 70), ("redeem", 1, "V0000000059"), ("redeem", 2, "V0000000059")]
        self.assertEqual(run(calls)[-2:], [[-8], [70]])

    def test_order_of_refusals(self):
        self.refused([], ("redeem", 0, "x"), -1)
        self.refused([], ("redeem", 1, "x"), -4)
        self.refused(self.before, ("redeem", 3, "x"), -4)
        self.refused(FULL, ("redeem", 1, "V0000000058"), -2)
        self.refused(FULL, ("redeem", 1, "V0000000059"), -4)
        used = FULL + [("account",), ("voucher", 5, 70), ("redeem", 2, "V0000000059")]
        self.refused(used, ("redeem", 1, "V0000000059"), -5)
        self.refused(used, ("redeem", LEAST, "V0000000059"), -1)
        self.refused(used, ("redeem", MOST, "V0000000059"), -1)


class Check(CallCase):
    def test_read(self):
        texts = {"V0000000000": 0, "V0000000018": 1, "V1234567897": 123456789, "V9999999999": 999999999}
        for text, number in texts.items():
            self.assertEqual(last([("check", text)]), [1, 1, number])

    def test_as_voucher_answers_it(self):
        for number in (0, 5, 6, 98, 307, 40210, 987654321, 999999999):
            told = last([("voucher", number, 5)])
            self.assertEqual(last([("check", told[2:])]), [1, 1, number])

    def test_whether_there_is_such_a_voucher_or_not(self):
        calls = [("account",), ("voucher", 5, 70), ("redeem", 1, "V0000000059")]
        self.assertEqual(last(calls + [("check", "V0000000059")]), [1, 1, 5])
        self.assertEqual(picture(world_behind(calls + [("check", "V0000000059")])), picture(world_behind(calls)))

    def test_another_length(self):
        for text in ("", "V", "V0", "V000000000", "V00000000000", "0000000000", "VV0000000000", " V0000000000", "V" + "0" * 199):
            self.assertEqual(last([("check", text)]), [0], text)

    def test_another_byte_first(self):
        good = text_bytes("V0000000059")
        for byte in range(256):
            self.assertEqual(last([("check", [byte] + good[1:])]), [1, 1, 5] if byte == 86 else [0], byte)

    def test_other_bytes_than_digits(self):
        good = text_bytes("V0000000059")
        for place in range(1, 11):
            for byte in (0, 32, 46, 47, 58, 86, 255):
                self.assertEqual(last([("check", good[:place] + [byte] + good[place + 1:])]), [0], (place, byte))

    def test_another_check_digit(self):
        for digit in range(10):
            self.assertEqual(last([("check", f"V123456789{digit}")]), [1, 1, 123456789] if digit == 7 else [0])

    def test_a_digit_changed_or_two_changed_about(self):
        self.assertEqual([last([("check", text)]) for text in ("V1234567807", "V1234657897", "V2134567897")], [[0]] * 3)

    def test_length(self):
        before = [("account",), ("voucher", 5, 70)]
        self.assertEqual(last(before + [("check", [48] * 200)]), [0])
        for length in (201, 1000):
            self.refused(before, ("check", [48] * length), -1)
