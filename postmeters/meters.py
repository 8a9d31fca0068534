"""The calls on meters themselves."""

from postmeters.imprints import right_text
from postmeters.journal import HANDED_IN
from postmeters.memory import FALLING, PIECE, REFILLS, RISING
from postmeters.replies import (
    ALREADY_SO, AS_TOLD, METER_OFF, NOT_ENOUGH, OUT_OF_RANGE, TOO_MUCH, with_rows,
)
from postmeters.world import MOST_METERS, Meter

MOST_KEY = 1000000
MOST_IMPRINT_VALUE = 1000000
# Behind the six words of a write, the seventh step is the print itself.
PRINTED = 7


def new_meter(world, account, key):
    if not 1 <= key <= MOST_KEY:
        return [OUT_OF_RANGE]
    refusal = world.account_refusal(account)
    if refusal < 0:
        return [refusal]
    if len(world.meters) == MOST_METERS:
        return [TOO_MUCH]
    number = len(world.meters) + 1
    world.meters.append(Meter(number, account, key))
    return [number]


def stop_meter(world, number):
    refusal = world.meter_refusal(number)
    if refusal < 0:
        return [refusal]
    meter = world.find_meter(number)
    if meter.stopped_on is not None:
        return [ALREADY_SO]
    meter.stopped_on = world.day
    return [world.day]


def left_in(world, meter):
    """What the meter holds, and the granted refills that never came to it."""
    bank = meter.memory.counting_bank()
    return bank[FALLING] + sum(world.journal.granted(meter.number)[bank[REFILLS]:])


def withdraw(world, number):
    refusal = world.meter_refusal(number)
    if refusal < 0:
        return [refusal]
    meter = world.find_meter(number)
    if meter.stopped_on is None:
        return [AS_TOLD]
    amount = left_in(world, meter)
    if world.is_too_much(meter.account, amount):
        return [TOO_MUCH]
    meter.handed_in = True
    meter.on = False
    world.enter_today(meter.account, HANDED_IN, amount, number)
    return with_rows(amount, [meter.memory.counting_bank()])


def write_imprint(meter, value, k):
    bank = meter.memory.counting_bank()
    meter.memory.write(bank[RISING] + value, bank[FALLING] - value, bank[PIECE] + 1, bank[REFILLS], k)


def print_imprint(world, number, value, k):
    if not 1 <= value <= MOST_IMPRINT_VALUE or not 0 <= k <= PRINTED:
        return [OUT_OF_RANGE]
    refusal = world.meter_refusal(number)
    if refusal < 0:
        return [refusal]
    meter = world.find_meter(number)
    if not meter.on:
        return [METER_OFF]
    if meter.memory.counting_bank()[FALLING] < value:
        return [NOT_ENOUGH]
    write_imprint(meter, value, k)
    if k < PRINTED:
        meter.on = False
        return with_rows(0, [[]])
    piece = meter.memory.counting_bank()[PIECE]
    return with_rows(1, [right_text(meter, piece, value, world.day)])


def boot(world, number):
    refusal = world.meter_refusal(number)
    if refusal < 0:
        return [refusal]
    meter = world.find_meter(number)
    if meter.on:
        return [ALREADY_SO]
    meter.on = True
    return with_rows(0, [meter.memory.counting_bank()])
