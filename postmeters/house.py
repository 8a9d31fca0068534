"""The interface: a list of calls on one new world, and what they answer."""

from postmeters.accounts import deposit, move_day, new_account, new_voucher, redeem
from postmeters.lines import ask, deliver_to_house, deliver_to_meter, lose
from postmeters.meters import boot, new_meter, print_imprint, stop_meter, withdraw
from postmeters.world import World

BEGIN = 0
DAY = 1
ACCOUNT = 2
DEPOSIT = 3
VOUCHER = 4
REDEEM = 5
METER = 6
STOP = 7
WITHDRAW = 8
IMPRINT = 9
BOOT = 10
ASK = 11
TO_HOUSE = 12
TO_METER = 13

# How many whole numbers stand behind each call's number, by that number.
WHOLE_NUMBERS = {
    0: 0, 1: 1, 2: 0, 3: 2, 4: 2, 5: 1, 6: 2, 7: 1,
    8: 1, 9: 3, 10: 1, 11: 2, 12: 1, 13: 2, 14: 2,
}

# The calls that have a text behind their whole numbers: redeem.
CALLS_WITH_TEXT = (5,)


def split_calls(calls):
    """Each call as its number, its whole numbers and its text (empty if it has none)."""
    parts = []
    place = 0
    while place < len(calls):
        call = calls[place]
        behind = place + 1 + WHOLE_NUMBERS[call]
        numbers = calls[place + 1:behind]
        text = []
        if call in CALLS_WITH_TEXT:
            text = calls[behind + 1:behind + 1 + calls[behind]]
            behind += 1 + len(text)
        parts.append((call, numbers, text))
        place = behind
    return parts


def answer_on_accounts(world, call, numbers, text):
    if call == DAY:
        return move_day(world, numbers[0])
    if call == ACCOUNT:
        return new_account(world)
    if call == DEPOSIT:
        return deposit(world, numbers[0], numbers[1])
    if call == VOUCHER:
        return new_voucher(world, numbers[0], numbers[1])
    return redeem(world, numbers[0], text)


def answer_on_meters(world, call, numbers):
    if call == METER:
        return new_meter(world, numbers[0], numbers[1])
    if call == STOP:
        return stop_meter(world, numbers[0])
    if call == WITHDRAW:
        return withdraw(world, numbers[0])
    if call == IMPRINT:
        return print_imprint(world, numbers[0], numbers[1], numbers[2])
    return boot(world, numbers[0])


def answer_on_lines(world, call, numbers):
    if call == ASK:
        return ask(world, numbers[0], numbers[1])
    if call == TO_HOUSE:
        return deliver_to_house(world, numbers[0])
    if call == TO_METER:
        return deliver_to_meter(world, numbers[0], numbers[1])
    return lose(world, numbers[0], numbers[1])


def answer(world, call, numbers, text):
    """What one call on the world answers, its number first."""
    if call == BEGIN:
        world.begin()
        return [0]
    if call <= REDEEM:
        return answer_on_accounts(world, call, numbers, text)
    if call <= BOOT:
        return answer_on_meters(world, call, numbers)
    return answer_on_lines(world, call, numbers)


def answers(calls):
    """For each call, in order, how many numbers it answers, and these."""
    world = World()
    told = []
    for call, numbers, text in split_calls(calls):
        reply = answer(world, call, numbers, text)
        told.append(len(reply))
        told.extend(reply)
    return told
