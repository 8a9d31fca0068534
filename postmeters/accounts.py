"""The calls on the day, accounts and vouchers."""

from postmeters.journal import PAID_IN, VOUCHER_USED
from postmeters.replies import ALREADY_SO, NOT_READ, NOT_THERE, OUT_OF_RANGE, TOO_MUCH, with_rows
from postmeters.texts import LONGEST_TEXT, read_voucher, voucher_text
from postmeters.world import MOST_ACCOUNTS, Voucher

LAST_DAY = 100000
MOST_DAYS = 1000
MOST_DEPOSIT = 100000000
MOST_VOUCHERS = 50
LAST_VOUCHER = 999999999
MOST_VOUCHER_VALUE = 1000000


def move_day(world, days):
    if not 0 <= days <= MOST_DAYS:
        return [OUT_OF_RANGE]
    if world.day + days > LAST_DAY:
        return [TOO_MUCH]
    world.day += days
    return [world.day]


def new_account(world):
    if world.accounts == MOST_ACCOUNTS:
        return [TOO_MUCH]
    world.accounts += 1
    return [world.accounts]


def deposit(world, account, amount):
    if not 1 <= amount <= MOST_DEPOSIT:
        return [OUT_OF_RANGE]
    refusal = world.account_refusal(account)
    if refusal < 0:
        return [refusal]
    if world.is_too_much(account, amount):
        return [TOO_MUCH]
    world.enter_today(account, PAID_IN, amount, 0)
    return [world.journal.balance(account)]


def new_voucher(world, number, value):
    if not 0 <= number <= LAST_VOUCHER or not 1 <= value <= MOST_VOUCHER_VALUE:
        return [OUT_OF_RANGE]
    if number in world.vouchers:
        return [ALREADY_SO]
    if len(world.vouchers) == MOST_VOUCHERS:
        return [TOO_MUCH]
    world.vouchers[number] = Voucher(value)
    return with_rows(len(world.vouchers), [voucher_text(number)])


def redeem(world, account, text):
    refusal = world.account_refusal(account)
    if refusal < 0:
        return [refusal]
    number = read_voucher(text)
    if number is None:
        return [NOT_READ]
    voucher = world.vouchers.get(number)
    if voucher is None:
        return [NOT_THERE]
    if voucher.used:
        return [ALREADY_SO]
    if world.is_too_much(account, voucher.value):
        return [TOO_MUCH]
    voucher.used = True
    world.enter_today(account, VOUCHER_USED, voucher.value, number)
    return [voucher.value]


def check_voucher(text):
    """Whether the text is read as a voucher's, whatever vouchers there are."""
    if len(text) > LONGEST_TEXT:
        return [OUT_OF_RANGE]
    number = read_voucher(text)
    return [0] if number is None else with_rows(1, [[number]])
