"""The calls on imprints as texts: what one comes to, those seen and those given back."""

from postmeters.codes import IMPRINT, is_sealed, sealed
from postmeters.journal import SPOILED
from postmeters.replies import AS_TOLD, NOT_ENOUGH, NOT_READ, OUT_OF_RANGE, TOO_MUCH, with_rows
from postmeters.texts import LONGEST_TEXT, imprint_text, read_imprint

# What an imprint's text comes to.
COUNTS = 1
UNREADABLE = 2
NO_SUCH_METER = 3
WRONG_CODE = 4
BEHIND_THE_STOP = 5
LATER_THAN_TODAY = 6
TOO_OLD = 7
SEEN = 8
GIVEN_BACK = 9

MOST_DAYS_TO_COUNT = 30
MOST_DAYS_TO_SPOIL = 60

LAST_PIECE = 999999999
MOST_TEXT_VALUE = 99999999999
LAST_TEXT_DAY = 100000


def right_text(meter, piece, value, day):
    """The text of the meter's imprint with its right code."""
    return imprint_text(sealed(IMPRINT, [meter.number, piece, value, day], meter.key))


def meter_of(imprint):
    return imprint[0]


def piece_of(imprint):
    """The meter and the piece, by which an imprint is seen or given back."""
    return (imprint[0], imprint[1])


def value_of(imprint):
    return imprint[2]


def day_of(imprint):
    return imprint[3]


def days_since(world, imprint):
    return world.day - day_of(imprint)


def verdict_by_days(world, meter, imprint):
    """What the imprint's day makes of it, COUNTS if nothing stands against it."""
    if meter.stopped_on is not None and meter.stopped_on < day_of(imprint):
        return BEHIND_THE_STOP
    if day_of(imprint) > world.day:
        return LATER_THAN_TODAY
    return TOO_OLD if days_since(world, imprint) > MOST_DAYS_TO_COUNT else COUNTS


def verdict_by_use(world, imprint):
    if piece_of(imprint) in world.seen:
        return SEEN
    return GIVEN_BACK if piece_of(imprint) in world.given_back else COUNTS


def verdict(world, imprint):
    """What the imprint comes to; None stands for one that isn't read."""
    if imprint is None:
        return UNREADABLE
    meter = world.meter_ever_there(meter_of(imprint))
    if meter is None:
        return NO_SUCH_METER
    if not is_sealed(IMPRINT, imprint, meter.key):
        return WRONG_CODE
    by_days = verdict_by_days(world, meter, imprint)
    return verdict_by_use(world, imprint) if by_days == COUNTS else by_days


def scan(world, text):
    if len(text) > LONGEST_TEXT:
        return [OUT_OF_RANGE]
    imprint = read_imprint(text)
    comes_to = verdict(world, imprint)
    if comes_to != COUNTS:
        return with_rows(comes_to, [[]])
    world.seen[piece_of(imprint)] = True
    return with_rows(comes_to, [[value_of(imprint)]])


def judge(world, text):
    if len(text) > LONGEST_TEXT:
        return [OUT_OF_RANGE]
    imprint = read_imprint(text)
    return with_rows(verdict(world, imprint), [[] if imprint is None else imprint])


def is_of_account(world, account, imprint):
    meter = world.meter_ever_there(meter_of(imprint))
    return meter is not None and meter.account == account


def can_be_given_back(world, imprint):
    if verdict(world, imprint) not in (COUNTS, TOO_OLD) or days_since(world, imprint) > MOST_DAYS_TO_SPOIL:
        return False
    # An old one is told as old alone, whether it was used or not.
    return verdict_by_use(world, imprint) == COUNTS


def less_a_twentieth(value):
    """The value without its twentieth part, which is rounded up."""
    return value - (value + 19) // 20


def spoil(world, account, text):
    if len(text) > LONGEST_TEXT:
        return [OUT_OF_RANGE]
    refusal = world.account_refusal(account)
    if refusal < 0:
        return [refusal]
    imprint = read_imprint(text)
    if imprint is None:
        return [NOT_READ]
    if not is_of_account(world, account, imprint):
        return [AS_TOLD]
    if not can_be_given_back(world, imprint):
        return [NOT_ENOUGH]
    amount = less_a_twentieth(value_of(imprint))
    if world.is_too_much(account, amount):
        return [TOO_MUCH]
    world.given_back[piece_of(imprint)] = True
    world.enter_today(account, SPOILED, amount, meter_of(imprint))
    return [amount]


def write_text(world, number, piece, value, day):
    if not 1 <= piece <= LAST_PIECE or not 0 <= value <= MOST_TEXT_VALUE or not 0 <= day <= LAST_TEXT_DAY:
        return [OUT_OF_RANGE]
    refusal = world.meter_refusal(number)
    if refusal < 0:
        return [refusal]
    return with_rows(0, [right_text(world.find_meter(number), piece, value, day)])
