"""The calls that tell what there is and change nothing."""

from postmeters.memory import RISING
from postmeters.replies import OUT_OF_RANGE, with_rows

LAST_FROM = 1000
MOST_TOLD = 50


def power(meter):
    return 1 if meter.on else 0


def tell_registers(world, number):
    refusal = world.meter_refusal(number)
    if refusal < 0:
        return [refusal]
    meter = world.find_meter(number)
    return with_rows(power(meter), [meter.memory.counting_bank()[RISING:]])


def tell_banks(world, number):
    refusal = world.meter_refusal(number)
    if refusal < 0:
        return [refusal]
    meter = world.find_meter(number)
    return with_rows(power(meter), [meter.memory.first, meter.memory.second])


def tell_meter(world, number):
    refusal = world.meter_refusal(number)
    if refusal < 0:
        return [refusal]
    meter = world.find_meter(number)
    stop = [] if meter.stopped_on is None else [meter.stopped_on]
    return with_rows(meter.account, [world.journal.granted(number), stop])


def tell_balance(world, account):
    refusal = world.account_refusal(account)
    if refusal < 0:
        return [refusal]
    return [world.journal.balance(account)]


def tell_statement(world, account, from_entry):
    if not 1 <= from_entry <= LAST_FROM:
        return [OUT_OF_RANGE]
    refusal = world.account_refusal(account)
    if refusal < 0:
        return [refusal]
    told = world.journal.entries_of(account)[from_entry - 1:from_entry - 1 + MOST_TOLD]
    return with_rows(len(told), [[entry.day, entry.kind, entry.amount, entry.number] for entry in told])


def tell_lines(world):
    messages = world.asks + world.grants
    return with_rows(len(messages), messages)


def tell_counts(world):
    counts = [
        world.accounts,
        len(world.meters),
        len(world.vouchers),
        len(world.journal.entries),
        len(world.asks),
        len(world.grants),
        len(world.seen),
        len(world.given_back),
    ]
    return with_rows(world.day, [counts])
