"""The two lines of messages, and what happens when one arrives."""

from postmeters.codes import ASK, GRANT, MODULUS, is_sealed, sealed
from postmeters.journal import REFILL_GRANTED
from postmeters.memory import FALLING, PIECE, REFILLS, RISING, WHOLE_WRITE
from postmeters.replies import METER_OFF, NOT_THERE, OUT_OF_RANGE, TOO_MUCH, with_rows

MOST_MESSAGES = 16
MOST_ASKED = 90000
TO_HOUSE = 0
TO_METERS = 1

# Where these stand in an ask and in a grant alike; the code stands last.
METER = 0
NUMBER = 1
AMOUNT = 2
# In an ask alone.
TOTAL = 3


def message_refusal(line, place):
    """The refusal that a message's place on the line calls for, 0 if none."""
    if not 1 <= place <= MOST_MESSAGES:
        return OUT_OF_RANGE
    return NOT_THERE if place > len(line) else 0


def put_grant(world, meter, number, amount):
    # On a full line a message is lost, and the meter has to ask again.
    if len(world.grants) < MOST_MESSAGES:
        world.grants.append(sealed(GRANT, [meter.number, number, amount], meter.key))


def grant_refill(world, meter, message):
    """Grant a new refill if the sums are right; how many entries were written."""
    amount = message[AMOUNT]
    if message[TOTAL] != sum(world.journal.granted(meter.number)):
        return 0
    if world.journal.balance(meter.account) < amount:
        return 0
    world.enter_today(meter.account, REFILL_GRANTED, amount, meter.number)
    put_grant(world, meter, message[NUMBER], amount)
    return 1


def ask_arrives(world, message):
    """Let an ask arrive at the house; how many entries were written."""
    meter = world.find_meter(message[METER])
    if meter is None or meter.stopped_on is not None or not is_sealed(ASK, message, meter.key):
        return 0
    granted = world.journal.granted(meter.number)
    number = message[NUMBER]
    if number == len(granted) + 1:
        return grant_refill(world, meter, message)
    if number == len(granted) and number >= 1:
        put_grant(world, meter, number, granted[-1])
    return 0


def grant_arrives(world, message, k):
    """Let a grant arrive at its meter, power cut behind k words."""
    meter = world.find_meter(message[METER])
    if meter is None or not meter.on or not is_sealed(GRANT, message, meter.key):
        return
    bank = meter.memory.counting_bank()
    if message[NUMBER] != bank[REFILLS] + 1:
        return
    falling = bank[FALLING] + message[AMOUNT]
    meter.memory.write(bank[RISING], falling, bank[PIECE], bank[REFILLS] + 1, k)
    meter.on = k == WHOLE_WRITE


def ask(world, number, amount):
    if not 1 <= amount <= MOST_ASKED:
        return [OUT_OF_RANGE]
    refusal = world.meter_refusal(number)
    if refusal < 0:
        return [refusal]
    meter = world.find_meter(number)
    if not meter.on:
        return [METER_OFF]
    if len(world.asks) == MOST_MESSAGES:
        return [TOO_MUCH]
    bank = meter.memory.counting_bank()
    total = bank[RISING] + bank[FALLING]
    message = sealed(ASK, [number, bank[REFILLS] + 1, amount, total], meter.key)
    world.asks.append(message)
    return with_rows(message[NUMBER], [message])


def deliver_to_house(world, place):
    refusal = message_refusal(world.asks, place)
    if refusal < 0:
        return [refusal]
    message = world.asks.pop(place - 1)
    return with_rows(ask_arrives(world, message), [message])


def deliver_to_meter(world, place, k):
    if not 0 <= k <= WHOLE_WRITE:
        return [OUT_OF_RANGE]
    refusal = message_refusal(world.grants, place)
    if refusal < 0:
        return [refusal]
    message = world.grants.pop(place - 1)
    grant_arrives(world, message, k)
    return with_rows(0, [message])


def messages_on(world, line):
    return world.asks if line == TO_HOUSE else world.grants


def place_refusal(world, line, place):
    """The refusal that a line and a place on it call for, 0 if none."""
    if not TO_HOUSE <= line <= TO_METERS:
        return OUT_OF_RANGE
    return message_refusal(messages_on(world, line), place)


def lose(world, line, place):
    refusal = place_refusal(world, line, place)
    if refusal < 0:
        return [refusal]
    messages_on(world, line).pop(place - 1)
    return [0]


def double(world, line, place):
    refusal = place_refusal(world, line, place)
    if refusal < 0:
        return [refusal]
    messages = messages_on(world, line)
    if len(messages) == MOST_MESSAGES:
        return [TOO_MUCH]
    # A list of its own, so that one of the two can be garbled without the other.
    messages.append(list(messages[place - 1]))
    return [0]


def garble(world, line, place, n):
    if not 1 <= n < MODULUS:
        return [OUT_OF_RANGE]
    refusal = place_refusal(world, line, place)
    if refusal < 0:
        return [refusal]
    message = messages_on(world, line)[place - 1]
    message[AMOUNT] = (message[AMOUNT] + n) % MODULUS
    return [0]
