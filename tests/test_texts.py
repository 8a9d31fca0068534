"""Numbers, money, codes, imprints and vouchers as texts."""

import unittest

from postmeters.codes import code_of, is_sealed, sealed
from postmeters.texts import check_digit, imprint_text, money, padded, read_imprint, read_voucher, voucher_text
from tests.helper import METER, code, imprint_row, last, refill, run, text_bytes


class Codes(unittest.TestCase):
    def test_step_by_step(self):
        self.assertEqual(code_of([], 5), 5)
        self.assertEqual(code_of([1], 5), 156)
        self.assertEqual(code_of([3, 1, 1, 100, 0], 5), 63301)

    def test_rest_of_the_key(self):
        self.assertEqual(code_of([], 99990), 99990)
        self.assertEqual(code_of([], 99991), 0)
        self.assertEqual(code_of([], 1000000), 90)

    def test_order_counts(self):
        self.assertNotEqual(code_of([1, 2], 5), code_of([2, 1], 5))

    def test_numbers_above_the_modulus(self):
        self.assertEqual(code_of([99991], 1), 31)
        self.assertEqual(code_of([1000000000, 7], 1000000), code(1000000, 1000000000, 7))

    def test_sealed(self):
        message = sealed(2, [1, 1, 500], 9)
        self.assertEqual(message, [1, 1, 500, code(9, 2, 1, 1, 500)])
        self.assertTrue(is_sealed(2, message, 9))
        self.assertFalse(is_sealed(1, message, 9))
        self.assertFalse(is_sealed(2, message, 10))
        self.assertFalse(is_sealed(2, [1, 1, 501, message[-1]], 9))


class Numbers(unittest.TestCase):
    def test_padded(self):
        self.assertEqual([padded(0, 2), padded(7, 2), padded(10, 2), padded(123, 5)], ["00", "07", "10", "00123"])

    def test_money(self):
        told = [money(value) for value in (0, 1, 10, 99, 100, 105, 1000000, 99999999999)]
        self.assertEqual(told, ["0.00", "0.01", "0.10", "0.99", "1.00", "1.05", "10000.00", "999999999.99"])


class Imprints(unittest.TestCase):
    def test_text(self):
        self.assertEqual(imprint_text([1, 1, 100, 0, 63301]), text_bytes("M1.1 V1.00 D0 C63301"))
        self.assertEqual(imprint_text([10, 345, 1000000, 100000, 7]), text_bytes("M10.345 V10000.00 D100000 C00007"))

    def test_as_imprint_answers_it(self):
        calls = [("account",), ("deposit", 1, 1000), ("meter", 1, 5)] + refill(1000) + [("imprint", 1, 100, 7)]
        self.assertEqual(last(calls), [1, 20] + text_bytes("M1.1 V1.00 D0 C63301"))

    def test_code_is_padded(self):
        key = next(key for key in range(1, 99991) if code(key, 3, 1, 1, 5, 0) < 10)
        calls = [("account",), ("deposit", 1, 1000), ("meter", 1, key)] + refill(1000) + [("imprint", 1, 5, 7)]
        told = last(calls)
        self.assertEqual(told, [1] + imprint_row(key, 1, 1, 5, 0))
        self.assertEqual(told[-6:-1], text_bytes("C0000"))

    def test_meter_piece_and_day_in_their_one_way(self):
        calls = METER + [("meter", 1, 8)] * 9 + refill(5000, 10) + [("day", 1000)] * 100
        calls += [("imprint", 10, 205, 7)] * 12
        told = run(calls)[-12:]
        self.assertEqual(told, [[1] + imprint_row(8, 10, piece, 205, 100000) for piece in range(1, 13)])


class ImprintsRead(unittest.TestCase):
    texts = {
        "M1.1 V1.00 D0 C63301": [1, 1, 100, 0, 63301],
        "M0.0 V0.00 D0 C00000": [0, 0, 0, 0, 0],
        "M10.345 V10000.05 D100000 C00007": [10, 345, 1000005, 100000, 7],
        "M999999999.999999999 V999999999.99 D999999999 C99999": [999999999, 999999999, 99999999999, 999999999, 99999],
        "M100000000.100000000 V100000000.01 D100000000 C99990": [100000000, 100000000, 10000000001, 100000000, 99990],
        "M2.9 V0.90 D10 C01000": [2, 9, 90, 10, 1000],
    }

    def not_read(self, *texts):
        for text in texts:
            with self.subTest(text=text):
                row = text_bytes(text) if isinstance(text, str) else text
                self.assertIsNone(read_imprint(row))
                self.assertEqual(run(METER + [("judge", row), ("scan", row)])[-2:], [[2, 0], [2, 0]])

    def test_read(self):
        for text, imprint in self.texts.items():
            with self.subTest(text=text):
                self.assertEqual(read_imprint(text_bytes(text)), imprint)
                self.assertEqual(imprint_text(imprint), text_bytes(text))

    def test_zero_in_front(self):
        self.not_read("M01.1 V1.00 D0 C63301", "M1.01 V1.00 D0 C63301", "M1.1 V01.00 D0 C63301", "M1.1 V1.00 D00 C63301")
        self.not_read("M00.1 V1.00 D0 C63301", "M1.00 V1.00 D0 C63301", "M1.1 V00.00 D0 C63301", "M1.1 V1.00 D01 C63301")
        self.not_read("M000000001.1 V1.00 D0 C63301", "M1.1 V000000001.00 D0 C63301")

    def test_ten_digits(self):
        ten = ("1000000000", "9999999999", "0000000001", "1" * 20, "1" * 100)
        for number in ten:
            self.not_read(f"M{number}.1 V1.00 D0 C63301", f"M1.{number} V1.00 D0 C63301")
            self.not_read(f"M1.1 V{number}.00 D0 C63301", f"M1.1 V1.00 D{number} C63301")

    def test_empty_number(self):
        self.not_read("M.1 V1.00 D0 C63301", "M1. V1.00 D0 C63301", "M1.1 V.00 D0 C63301", "M1.1 V1.00 D C63301")
        self.not_read("M. V. D C", "M1.1 V1. D0 C63301", "M1.1 V1.00 D0 C", "M V1.00 D0 C63301", "M1.1 V D0 C63301")

    def test_hundredths(self):
        self.not_read("M1.1 V1.0 D0 C63301", "M1.1 V1.000 D0 C63301", "M1.1 V1 D0 C63301", "M1.1 V100 D0 C63301")

    def test_digits_of_the_code(self):
        self.not_read("M1.1 V1.00 D0 C6330", "M1.1 V1.00 D0 C063301", "M1.1 V1.00 D0 C633010", "M1.1 V1.00 D0 C0")

    def test_points(self):
        self.not_read("M11 V1.00 D0 C63301", "M1..1 V1.00 D0 C63301", "M1.1.1 V1.00 D0 C63301", "M1.1. V1.00 D0 C63301")
        self.not_read("M.1.1 V1.00 D0 C63301", "M1.1 V1..00 D0 C63301", "M1.1 V1.00. D0 C63301", "M1.1 V1.0.0 D0 C63301")
        self.not_read("M1.1 V.1.00 D0 C63301", "M1.1 V1.00 D0.0 C63301", "M1.1 V1.00 D0. C63301", "M1.1 V1.00 D0 C63301.")
        self.not_read("M1.1 V1.00 D0 C633.01", "M1.1.V1.00 D0 C63301", "M1,1 V1.00 D0 C63301", "M1.1 V1,00 D0 C63301")

    def test_blanks(self):
        self.not_read("M1.1V1.00 D0 C63301", "M1.1 V1.00D0 C63301", "M1.1 V1.00 D0C63301", "M1.1V1.00D0C63301")
        self.not_read("M1.1  V1.00 D0 C63301", "M1.1 V1.00  D0 C63301", "M1.1 V1.00 D0  C63301")
        self.not_read(" M1.1 V1.00 D0 C63301", "M1.1 V1.00 D0 C63301 ", "M 1.1 V1.00 D0 C63301", "M1. 1 V1.00 D0 C63301")
        self.not_read("M1.1 V 1.00 D0 C63301", "M1.1 V1.00 D 0 C63301", "M1.1 V1.00 D0 C 63301", "M1.1 V1.00 D0 C63 301")
        self.not_read("M1.1\tV1.00 D0 C63301", "M1.1 V1.00 D0 C63301\n", "M1.1\nV1.00 D0 C63301")

    def test_another_letter(self):
        self.not_read("m1.1 V1.00 D0 C63301", "M1.1 v1.00 D0 C63301", "M1.1 V1.00 d0 C63301", "M1.1 V1.00 D0 c63301")
        self.not_read("1.1 V1.00 D0 C63301", "M1.1 1.00 D0 C63301", "M1.1 V1.00 0 C63301", "M1.1 V1.00 D0 63301")
        self.not_read("MM1.1 V1.00 D0 C63301", "M1.1 VV1.00 D0 C63301", "M1.1 V1.00 DD0 C63301", "M1.1 V1.00 D0 CC63301")

    def test_words_missing_too_many_or_in_another_order(self):
        self.not_read("", "M", " ", "   ", "M1.1", "M1.1 V1.00 D0", "V1.00 D0 C63301", "M1.1 D0 C63301", "M1.1 V1.00 C63301")
        self.not_read("M1.1 D0 V1.00 C63301", "V1.00 M1.1 D0 C63301", "M1.1 V1.00 C63301 D0", "M1.1 V1.00 D0 D0 C63301")
        self.not_read("M1.1 V1.00 D0 C63301 C63301", "M1.1 V1.00 D0 C63301 M1.1 V1.00 D0 C63301")

    def test_signs_before_a_number(self):
        self.not_read("M-1.1 V1.00 D0 C63301", "M1.+1 V1.00 D0 C63301", "M1.1 V-1.00 D0 C63301", "M1.1 V1.00 D-0 C63301")
        self.not_read("M1.1 V1.00 D0 C-6330", "M1.1 V1.-1 D0 C63301", "M1_0.1 V1.00 D0 C63301")

    def test_every_other_byte_at_every_place(self):
        good = text_bytes("M1.1 V1.00 D0 C63301")
        read = 0
        for place, right in enumerate(good):
            for byte in range(256):
                row = good[:place] + [byte] + good[place + 1:]
                told = read_imprint(row)
                # Where a digit stood, a digit may stand: none of the others is the first of two.
                may_stand = byte == right or (48 <= right <= 57 and 48 <= byte <= 57)
                self.assertEqual(told is not None, may_stand, (place, byte))
                if told is not None:
                    self.assertEqual(imprint_text(told), row)
                    read += 1
        self.assertEqual(read, 11 * 10 + 9)

    def test_every_byte_left_out_or_put_in(self):
        good = text_bytes("M12.34 V56.78 D90 C12345")
        # Without its second digit, and with one more, a number of two is still one.
        for place in range(len(good)):
            told = read_imprint(good[:place] + good[place + 1:])
            self.assertEqual(told is not None, place in (1, 2, 4, 5, 8, 9, 15, 16), place)
        for place in range(len(good) + 1):
            for byte in (32, 46, 47, 58, 67, 68, 77, 86):
                self.assertIsNone(read_imprint(good[:place] + [byte] + good[place:]), (place, byte))
            told = read_imprint(good[:place] + [55] + good[place:])
            self.assertEqual(told is not None, place in (1, 2, 3, 4, 5, 6, 8, 9, 10, 15, 16, 17), place)


class Vouchers(unittest.TestCase):
    numbers = {
        0: "V0000000000", 1: "V0000000018", 5: "V0000000059", 10: "V0000000109", 100: "V0000001008",
        60: "V0000000604", 123456789: "V1234567897", 999999999: "V9999999999", 900000000: "V9000000001",
    }

    def test_written_and_read(self):
        for number, text in self.numbers.items():
            with self.subTest(number=number):
                self.assertEqual(voucher_text(number), text_bytes(text))
                self.assertEqual(read_voucher(text_bytes(text)), number)

    def test_check_digit_of_every_single_digit(self):
        doubled = [0, 8, 6, 4, 2, 9, 7, 5, 3, 1]
        plain = [0, 9, 8, 7, 6, 5, 4, 3, 2, 1]
        for place in range(9):
            for digit in range(10):
                digits = [0] * 9
                digits[place] = digit
                right = doubled[digit] if place in (0, 2, 4, 6, 8) else plain[digit]
                self.assertEqual(check_digit(digits), right, (place, digit))

    def test_one_check_digit_alone_is_read(self):
        for number in self.numbers:
            text = voucher_text(number)
            read = [read_voucher(text[:-1] + [48 + digit]) for digit in range(10)]
            self.assertEqual([answer for answer in read if answer is not None], [number])

    def test_not_read(self):
        for text in ("", "V", "V000000000", "V00000000000", "v0000000000", "00000000000", "V00000000 0", "V-000000000"):
            self.assertIsNone(read_voucher(text_bytes(text)), text)

    def test_other_bytes_than_digits_whatever_the_check_digit(self):
        others = [byte for byte in range(256) if not 48 <= byte <= 57]
        for place in range(1, 10):
            for check in range(48, 58):
                row = text_bytes("V000000000") + [check]
                read = [read_voucher(row[:place] + [byte] + row[place + 1:]) for byte in others]
                self.assertEqual(read, [None] * len(others), (place, check))
