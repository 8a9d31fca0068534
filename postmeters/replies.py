"""What a call answers: a refusal, or a number with rows behind it."""

OUT_OF_RANGE = -1
NOT_READ = -2
METER_OFF = -3
NOT_THERE = -4
ALREADY_SO = -5
AS_TOLD = -6
# Also where an imprint can't be given back.
NOT_ENOUGH = -7
TOO_MUCH = -8


def with_rows(number, rows):
    """The number, and behind it each row with its length before it."""
    reply = [number]
    for row in rows:
        reply.append(len(row))
        reply.extend(row)
    return reply
