"""Codes by a key, and lists of numbers that end with their code."""

MODULUS = 99991
FACTOR = 31

ASK = 1
GRANT = 2
IMPRINT = 3


def code_of(numbers, key):
    code = key % MODULUS
    for number in numbers:
        code = (FACTOR * code + number) % MODULUS
    return code


def sealed(kind, numbers, key):
    """The numbers, and behind them the code of the kind and of them."""
    return numbers + [code_of([kind] + numbers, key)]


def is_sealed(kind, message, key):
    return message == sealed(kind, message[:-1], key)
