"""The interface: a list of calls on one new world, and what they answer."""

from postmeters.accounts import check_voucher, deposit, move_day, new_account, new_voucher, redeem
from postmeters.imprints import judge, scan, spoil, write_text
from postmeters.lines import ask, deliver_to_house, deliver_to_meter, double, garble, lose
from postmeters.meters import boot, new_meter, print_imprint, stop_meter, withdraw
from postmeters.reports import (
    tell_balance, tell_banks, tell_counts, tell_lines, tell_meter, tell_registers, tell_statement,
)
from postmeters.world import World

BEGIN = 0
DAY = 1
ACCOUNT = 2
DEPOSIT = 3
VOUCHER = 4
REDEEM = 5
METER = 6
STOP = 7
WITHDRAW = 8
IMPRINT = 9
BOOT = 10
ASK = 11
TO_HOUSE = 12
TO_METER = 13
LOSE = 14
DOUBLE = 15
GARBLE = 16
SCAN = 17
SPOIL = 18
JUDGE = 19
REGISTERS = 20
BANKS = 21
TOLD = 22
BALANCE = 23
STATEMENT = 24
LINES = 25
COUNTS = 26
TEXT = 27

# How many whole numbers stand behind each call's number, by that number.
WHOLE_NUMBERS = {
    0: 0, 1: 1, 2: 0, 3: 2, 4: 2, 5: 1, 6: 2, 7: 1,
    8: 1, 9: 3, 10: 1, 11: 2, 12: 1, 13: 2, 14: 2, 15: 2,
    16: 3, 17: 0, 18: 1, 19: 0, 20: 1, 21: 1, 22: 1, 23: 1,
    24: 2, 25: 0, 26: 0, 27: 4, 28: 0,
}

# The calls that have a text behind their whole numbers: redeem, scan, spoil, judge, check.
CALLS_WITH_TEXT = (5, 17, 18, 19, 28)


def split_calls(calls):
    """Each call as its number, its whole numbers and its text (empty if it has none)."""
    parts = []
    place = 0
    while place < len(calls):
        call = calls[place]
        behind = place + 1 + WHOLE_NUMBERS[call]
        numbers = calls[place + 1:behind]
        text = []
        if call in CALLS_WITH_TEXT:
            text = calls[behind + 1:behind + 1 + calls[behind]]
            behind += 1 + len(text)
        parts.append((call, numbers, text))
        place = behind
    return parts


def answer_on_accounts(world, call, numbers, text):
    if call == DAY:
        return move_day(world, numbers[0])
    if call == ACCOUNT:
        return new_account(world)
    if call == DEPOSIT:
        return deposit(world, numbers[0], numbers[1])
    if call == VOUCHER:
        return new_voucher(world, numbers[0], numbers[1])
    return redeem(world, numbers[0], text)


def answer_on_meters(world, call, numbers):
    if call == METER:
        return new_meter(world, numbers[0], numbers[1])
    if call == STOP:
        return stop_meter(world, numbers[0])
    if call == WITHDRAW:
        return withdraw(world, numbers[0])
    if call == IMPRINT:
        return print_imprint(world, numbers[0], numbers[1], numbers[2])
    return boot(world, numbers[0])


def answer_on_lines(world, call, numbers):
    if call == ASK:
        return ask(world, numbers[0], numbers[1])
    if call == TO_HOUSE:
        return deliver_to_house(world, numbers[0])
    if call == TO_METER:
        return deliver_to_meter(world, numbers[0], numbers[1])
    if call == LOSE:
        return lose(world, numbers[0], numbers[1])
    if call == DOUBLE:
        return double(world, numbers[0], numbers[1])
    return garble(world, numbers[0], numbers[1], numbers[2])


def answer_on_imprints(world, call, numbers, text):
    if call == SCAN:
        return scan(world, text)
    if call == SPOIL:
        return spoil(world, numbers[0], text)
    return judge(world, text)


def answer_with_report(world, call, numbers):
    if call == REGISTERS:
        return tell_registers(world, numbers[0])
    if call == BANKS:
        return tell_banks(world, numbers[0])
    if call == TOLD:
        return tell_meter(world, numbers[0])
    if call == BALANCE:
        return tell_balance(world, numbers[0])
    if call == STATEMENT:
        return tell_statement(world, numbers[0], numbers[1])
    if call == LINES:
        return tell_lines(world)
    return tell_counts(world)


def answer_on_texts(world, call, numbers, text):
    if call == TEXT:
        return write_text(world, numbers[0], numbers[1], numbers[2], numbers[3])
    return check_voucher(text)


def answer(world, call, numbers, text):
    """What one call on the world answers, its number first."""
    if call == BEGIN:
        world.begin()
        return [0]
    if call <= REDEEM:
        return answer_on_accounts(world, call, numbers, text)
    if call <= BOOT:
        return answer_on_meters(world, call, numbers)
    if call <= GARBLE:
        return answer_on_lines(world, call, numbers)
    if call <= JUDGE:
        return answer_on_imprints(world, call, numbers, text)
    if call <= COUNTS:
        return answer_with_report(world, call, numbers)
    return answer_on_texts(world, call, numbers, text)


def answers(calls):
    """For each call, in order, how many numbers it answers, and these."""
    world = World()
    told = []
    for call, numbers, text in split_calls(calls):
        reply = answer(world, call, numbers, text)
        told.append(len(reply))
        told.extend(reply)
    return told
