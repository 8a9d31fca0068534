"""What the tests share: calls by name, answers call by call, and a picture of all that there is."""

import unittest

from postmeters.house import answer, answers, split_calls
from postmeters.world import World

NUMBER_OF = {
    "begin": 0, "day": 1, "account": 2, "deposit": 3, "voucher": 4, "redeem": 5, "meter": 6, "stop": 7,
    "withdraw": 8, "imprint": 9, "boot": 10, "ask": 11, "to_house": 12, "to_meter": 13, "lose": 14, "double": 15,
    "garble": 16, "scan": 17, "spoil": 18, "judge": 19, "registers": 20, "banks": 21, "told": 22, "balance": 23,
    "statement": 24, "lines": 25, "counts": 26, "text": 27, "check": 28,
}
LEAST = -(2 ** 63)
MOST = 2 ** 63 - 1


def text_bytes(text):
    return list(text.encode("ascii"))


def flat(calls):
    """The list that answers takes, of calls like ("redeem", 1, "V0000000000")."""
    numbers = []
    for call in calls:
        numbers.append(NUMBER_OF[call[0]])
        for part in call[1:]:
            if isinstance(part, int):
                numbers.append(part)
            else:
                row = text_bytes(part) if isinstance(part, str) else part
                numbers += [len(row)] + row
    return numbers


def run(calls):
    """Each call's answer, as a list of its own."""
    told = answers(flat(calls))
    replies = []
    place = 0
    while place < len(told):
        replies.append(told[place + 1:place + 1 + told[place]])
        place += 1 + told[place]
    if len(replies) != len(calls):
        raise AssertionError(f"{len(calls)} calls, {len(replies)} answers")
    return replies


def last(calls):
    return run(calls)[-1]


def world_behind(calls):
    world = World()
    for call, numbers, text in split_calls(flat(calls)):
        answer(world, call, numbers, text)
    return world


def picture(value):
    """A value made of plain lists, tuples and dicts, so that two of them can be compared."""
    if isinstance(value, (list, tuple)):
        return [picture(part) for part in value]
    if isinstance(value, dict):
        return {key: picture(part) for key, part in value.items()}
    if hasattr(value, "__dict__"):
        return picture(vars(value))
    return value


def entries_behind(calls):
    """The journal's entries: day, account, kind, amount, number."""
    entries = world_behind(calls).journal.entries
    return [(e.day, e.account, e.kind, e.amount, e.number) for e in entries]


def code(key, *numbers):
    """The code as one sum of powers, not step by step."""
    row = (key,) + numbers
    return sum(number * 31 ** (len(row) - 1 - place) for place, number in enumerate(row)) % 99991


def ask_row(key, *numbers):
    """An answered ask: how many numbers it has, they, its code."""
    return [5, *numbers, code(key, 1, *numbers)]


def grant_row(key, *numbers):
    return [4, *numbers, code(key, 2, *numbers)]


def text_of(meter, piece, value, day, right):
    return f"M{meter}.{piece} V{value // 100}.{value % 100:02} D{day} C{right:05}"


def imprint_row(key, meter, piece, value, day):
    text = text_of(meter, piece, value, day, code(key, 3, meter, piece, value, day))
    return [len(text), *text_bytes(text)]


# An account with coins, and a meter of it with the key 7.
KEY = 7
METER = [("account",), ("deposit", 1, 100000000), ("meter", 1, KEY)]


def made(piece, value=100, day=0, meter=1, key=KEY):
    """The text of an imprint with the code that this key gives it."""
    return text_of(meter, piece, value, day, code(key, 3, meter, piece, value, day))


def refill(amount, meter=1):
    """A refill over good lines that hold nothing else."""
    return [("ask", meter, amount), ("to_house", 1), ("to_meter", 1, 6)]


class CallCase(unittest.TestCase):
    def refused(self, before, call, refusal):
        """The call behind these is refused so, and nothing has changed."""
        with self.subTest(call=call, refusal=refusal):
            self.assertEqual(last(before + [call]), [refusal])
            self.assertEqual(picture(world_behind(before + [call])), picture(world_behind(before)))

    def taken(self, before, call, number):
        """The call behind these isn't refused, and answers this number first."""
        with self.subTest(call=call):
            self.assertEqual(last(before + [call])[0], number)

    def range_refused(self, before, call, place, least, most):
        """-1 at the first values outside the range of the call's part at this place, and far outside."""
        for wrong in (least - 1, most + 1, LEAST, MOST):
            self.refused(before, call[:place] + (wrong,) + call[place + 1:], -1)
