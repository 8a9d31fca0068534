"""Texts as lists of bytes: numbers, money, imprints, vouchers."""

# The longest text that a call takes; redeem alone tells no such length.
LONGEST_TEXT = 200

BLANK = 32
POINT = 46
FIRST_DIGIT = 48
LAST_DIGIT = 57

MOST_DIGITS = 9
HUNDREDTHS_DIGITS = 2
CODE_DIGITS = 5

METER_SIGN = 77
VALUE_SIGN = 86
DAY_SIGN = 68
CODE_SIGN = 67

VOUCHER_SIGN = 86
VOUCHER_DIGITS = 9
VOUCHER_LENGTH = 11


def row_of(text):
    return [ord(sign) for sign in text]


def padded(number, digits):
    return str(number).zfill(digits)


def money(value):
    coins = str(value // 100)
    hundredths = padded(value % 100, HUNDREDTHS_DIGITS)
    return f"{coins}.{hundredths}"


def imprint_text(imprint):
    """The bytes of an imprint: its meter, piece, value, day and code."""
    meter = imprint[0]
    piece = imprint[1]
    value = money(imprint[2])
    day = imprint[3]
    code = padded(imprint[4], CODE_DIGITS)
    return row_of(f"M{meter}.{piece} V{value} D{day} C{code}")


def all_digits(row):
    return all([FIRST_DIGIT <= byte <= LAST_DIGIT for byte in row])


def digits_of(row):
    return [byte - FIRST_DIGIT for byte in row]


def number_of(row):
    """The number that a row of digits tells."""
    number = 0
    for digit in digits_of(row):
        number = 10 * number + digit
    return number


def is_in_one_way(row):
    if not 1 <= len(row) <= MOST_DIGITS or not all_digits(row):
        return False
    return len(row) == 1 or row[0] != FIRST_DIGIT


def is_padded(row, digits):
    return len(row) == digits and all_digits(row)


def split_at(separator, row):
    """The parts of the row before, between and behind the separators, empty ones too."""
    parts = [[]]
    for byte in row:
        if byte == separator:
            parts.append([])
        else:
            parts[-1].append(byte)
    return parts


def read_imprint(row):
    """The imprint's meter, piece, value, day and code, None if the bytes aren't read as an imprint's text."""
    words = split_at(BLANK, row)
    if [word[:1] for word in words] != [[METER_SIGN], [VALUE_SIGN], [DAY_SIGN], [CODE_SIGN]]:
        return None
    meter = split_at(POINT, words[0][1:])
    value = split_at(POINT, words[1][1:])
    if len(meter) != 2 or len(value) != 2:
        return None
    day = words[2][1:]
    code = words[3][1:]
    if not all([is_in_one_way(part) for part in [meter[0], meter[1], value[0], day]]):
        return None
    if not is_padded(value[1], HUNDREDTHS_DIGITS) or not is_padded(code, CODE_DIGITS):
        return None
    return [number_of(part) for part in [meter[0], meter[1], value[0] + value[1], day, code]]


def check_digit(digits):
    total = 0
    for place, digit in enumerate(digits):
        # Of nine digits the last is doubled, so the first is, and every other one between.
        if place % 2 == 1:
            total += digit
        elif digit > 4:
            total += 2 * digit - 9
        else:
            total += 2 * digit
    return -total % 10


def voucher_text(number):
    digits = row_of(padded(number, VOUCHER_DIGITS))
    return [VOUCHER_SIGN] + digits + [FIRST_DIGIT + check_digit(digits_of(digits))]


def read_voucher(row):
    """The voucher's number, None if the bytes aren't read as a voucher's text."""
    if len(row) != VOUCHER_LENGTH or row[0] != VOUCHER_SIGN or not all_digits(row[1:]):
        return None
    digits = digits_of(row[1:])
    if check_digit(digits[:-1]) != digits[-1]:
        return None
    return number_of(row[1:-1])
