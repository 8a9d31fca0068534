"""Texts as lists of bytes: money, imprints, vouchers."""

FIRST_DIGIT = 48
LAST_DIGIT = 57
VOUCHER_SIGN = 86
VOUCHER_DIGITS = 9
VOUCHER_LENGTH = 11


def row_of(text):
    return [ord(sign) for sign in text]


def padded(number, digits):
    return str(number).zfill(digits)


def money(value):
    coins = str(value // 100)
    hundredths = padded(value % 100, 2)
    return f"{coins}.{hundredths}"


def imprint_text(imprint):
    """The bytes of an imprint: its meter, piece, value, day and code."""
    meter = imprint[0]
    piece = imprint[1]
    value = money(imprint[2])
    day = imprint[3]
    code = padded(imprint[4], 5)
    return row_of(f"M{meter}.{piece} V{value} D{day} C{code}")


def check_digit(digits):
    total = 0
    for place, digit in enumerate(digits):
        # Of nine digits the last is doubled, so the first is, and every other one between.
        if place % 2 == 1:
            total += digit
        elif digit > 4:
            total += 2 * digit - 9
        else:
            total += 2 * digit
    return -total % 10


def digits_of(row):
    return [byte - FIRST_DIGIT for byte in row]


def voucher_text(number):
    digits = row_of(padded(number, VOUCHER_DIGITS))
    return [VOUCHER_SIGN] + digits + [FIRST_DIGIT + check_digit(digits_of(digits))]


def all_digits(row):
    return all([FIRST_DIGIT <= byte <= LAST_DIGIT for byte in row])


def read_voucher(row):
    """The voucher's number, None if the bytes aren't read as a voucher's text."""
    if len(row) != VOUCHER_LENGTH or row[0] != VOUCHER_SIGN or not all_digits(row[1:]):
        return None
    digits = digits_of(row[1:])
    if check_digit(digits[:-1]) != digits[-1]:
        return None
    number = 0
    for digit in digits[:-1]:
        number = 10 * number + digit
    return number
