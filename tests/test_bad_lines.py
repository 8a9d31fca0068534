"""double and garble, and what arrives behind them."""

from tests.helper import KEY, METER, CallCase, ask_row, entries_behind, grant_row, last, picture, refill, run, world_behind

ASKED = METER + [("ask", 1, 300)]
GRANTED = ASKED + [("to_house", 1)]
BOTH = GRANTED + [("ask", 1, 40)]
FULL = {0: METER + [("ask", 1, 5)] * 16, 1: METER + [("ask", 1, 5), ("to_house", 1)] * 16}


def messages(calls, line):
    world = world_behind(calls)
    return world.grants if line else world.asks


def amounts(calls, line):
    return [message[2] for message in messages(calls, line)]


def with_line_cut(calls, line):
    """All that there is behind these calls but for the line's last message."""
    world = world_behind(calls)
    (world.grants if line else world.asks).pop()
    return picture(world)


class Double(CallCase):
    def test_copy_at_the_end(self):
        calls = METER + [("ask", 1, amount) for amount in (5, 3, 4)] + [("double", 0, 2)]
        self.assertEqual(last(calls), [0])
        self.assertEqual(amounts(calls, 0), [5, 3, 4, 3])
        asks = messages(calls, 0)
        self.assertEqual(asks[1], asks[3])

    def test_each_line(self):
        for line in (0, 1):
            calls = BOTH + [("double", line, 1)]
            self.assertEqual(last(calls), [0])
            self.assertEqual(len(messages(calls, line)), 2)
            self.assertEqual(with_line_cut(calls, line), picture(world_behind(BOTH)))

    def test_line_with_fifteen_and_sixteen(self):
        for line, full in FULL.items():
            fifteen = full + [("lose", line, 1)]
            self.taken(fifteen, ("double", line, 15), 0)
            self.assertEqual(len(messages(fifteen + [("double", line, 15)], line)), 16)
            self.refused(fifteen + [("double", line, 15)], ("double", line, 15), -8)
            for place in (1, 16):
                self.refused(full, ("double", line, place), -8)
            # The other line is not full: it's empty, or has one.
            self.refused(full, ("double", 1 - line, 1), -4)
        self.taken(GRANTED + [("ask", 1, 5)] * 16, ("double", 1, 1), 0)
        self.taken(FULL[1] + [("ask", 1, 5)], ("double", 0, 1), 0)

    def test_refusals(self):
        self.range_refused(BOTH, ("double", 0, 1), 1, 0, 1)
        for line in (0, 1):
            self.range_refused(BOTH, ("double", line, 1), 2, 1, 16)
            self.refused([], ("double", line, 1), -4)
            self.refused(BOTH, ("double", line, 2), -4)
            self.refused(BOTH, ("double", line, 16), -4)

    def test_order_of_refusals(self):
        self.refused([], ("double", 2, 1), -1)
        self.refused([], ("double", -1, 1), -1)
        for line, full in FULL.items():
            self.refused([], ("double", line, 17), -1)
            self.refused([], ("double", line, 0), -1)
            self.refused(full, ("double", line, 17), -1)
            self.refused(full, ("double", 2, 1), -1)

    def test_ask_doubled_is_granted_once(self):
        calls = ASKED + [("double", 0, 1), ("to_house", 1), ("to_house", 1)]
        self.assertEqual(run(calls)[-2:], [[entries] + ask_row(KEY, 1, 1, 300, 0) for entries in (1, 0)])
        self.assertEqual(amounts(calls, 1), [300, 300])
        self.assertEqual(len(entries_behind(calls)), 2)

    def test_grant_doubled_counts_once(self):
        calls = GRANTED + [("double", 1, 1), ("to_meter", 2, 6), ("to_meter", 1, 6)]
        self.assertEqual(run(calls)[-2:], [[0] + grant_row(KEY, 1, 1, 300)] * 2)
        self.assertEqual(last(calls + [("registers", 1)]), [1, 4, 0, 300, 0, 1])

    def test_the_copy_is_one_of_its_own(self):
        for line in (0, 1):
            before = BOTH + [("double", line, 1)]
            amount = amounts(before, line)[0]
            self.assertEqual(amounts(before + [("garble", line, 1, 7)], line), [amount + 7, amount])
            self.assertEqual(amounts(before + [("garble", line, 2, 7)], line), [amount, amount + 7])

    def test_a_garbled_one_is_copied_as_it_is(self):
        for line in (0, 1):
            calls = BOTH + [("garble", line, 1, 7), ("double", line, 1)]
            first, second = messages(calls, line)
            self.assertEqual(first, second)
            self.assertEqual(first[2], amounts(BOTH, line)[0] + 7)


class Garble(CallCase):
    def test_the_amount_and_nothing_else(self):
        for line, kept in ((0, 40), (1, 300)):
            calls = BOTH + [("garble", line, 1, 11)]
            self.assertEqual(last(calls), [0])
            world = world_behind(BOTH)
            (world.grants if line else world.asks)[0][2] = kept + 11
            self.assertEqual(picture(world_behind(calls)), picture(world))

    def test_the_ith(self):
        calls = METER + [("ask", 1, amount) for amount in (5, 3, 4)] + [("garble", 0, 2, 100)]
        self.assertEqual(amounts(calls, 0), [5, 103, 4])

    def test_rest(self):
        for amount, n, rest in ((1, 99990, 0), (90000, 9991, 0), (90000, 9990, 99990), (90000, 9992, 1), (2, 99990, 1), (1, 1, 2)):
            asked = METER + [("ask", 1, amount)]
            self.assertEqual(amounts(asked + [("garble", 0, 1, n)], 0), [rest])
            self.assertEqual(amounts(asked + [("to_house", 1), ("garble", 1, 1, n)], 1), [rest])

    def test_refusals(self):
        self.range_refused(BOTH, ("garble", 0, 1, 1), 1, 0, 1)
        for line in (0, 1):
            self.range_refused(BOTH, ("garble", line, 1, 1), 2, 1, 16)
            self.range_refused(BOTH, ("garble", line, 1, 1), 3, 1, 99990)
            self.taken(BOTH, ("garble", line, 1, 1), 0)
            self.taken(BOTH, ("garble", line, 1, 99990), 0)
            self.refused(BOTH, ("garble", line, 2, 1), -4)
            self.refused([], ("garble", line, 1, 1), -4)
            self.taken(FULL[line], ("garble", line, 16, 1), 0)
            self.refused(FULL[line] + [("lose", line, 1)], ("garble", line, 16, 1), -4)

    def test_order_of_refusals(self):
        for call in ((2, 1, 1), (-1, 1, 1), (0, 0, 1), (1, 17, 1), (0, 1, 0), (1, 1, 99991), (0, 16, 0)):
            self.refused([], ("garble",) + call, -1)

    def test_garbled_ask_arrives(self):
        for n in (1, 99690, 99691, 99990):
            calls = ASKED + [("garble", 0, 1, n)]
            ask = messages(calls, 0)[0]
            arrived = calls + [("to_house", 1)]
            self.assertEqual(last(arrived), [0, 5] + ask)
            self.assertEqual(picture(world_behind(arrived)), picture(world_behind(METER)))

    def test_garbled_ask_of_the_refill_granted_last_arrives(self):
        calls = GRANTED + [("ask", 1, 300), ("garble", 0, 1, 5), ("to_house", 1)]
        self.assertEqual(last(calls)[:5], [0, 5, 1, 1, 305])
        self.assertEqual(picture(world_behind(calls)), picture(world_behind(GRANTED)))

    def test_garbled_grant_arrives(self):
        for n in (1, 99691, 99990):
            for k in (0, 5, 6):
                calls = GRANTED + [("garble", 1, 1, n)]
                grant = messages(calls, 1)[0]
                arrived = calls + [("to_meter", 1, k)]
                self.assertEqual(last(arrived), [0, 4] + grant)
                self.assertEqual(picture(world_behind(arrived)), picture(world_behind(GRANTED + [("lose", 1, 1)])))

    def test_every_garbled_one_has_a_wrong_code(self):
        # The amount alone changes, by less than the modulus, so the code can't be right by chance.
        for line, arrives in ((0, ("to_house", 1)), (1, ("to_meter", 1, 6))):
            calls = METER + refill(700) + [("ask", 1, 40)] + [("to_house", 1)] * line
            for n in range(1, 99991, 4999):
                arrived = calls + [("garble", line, 1, n), arrives]
                self.assertEqual(picture(world_behind(arrived)), with_line_cut(calls, line), (line, n))

    def test_garbled_back_it_arrives(self):
        calls = ASKED + [("garble", 0, 1, 99000), ("garble", 0, 1, 991)]
        self.assertEqual(picture(world_behind(calls)), picture(world_behind(ASKED)))
        self.assertEqual(last(calls + [("to_house", 1)]), [1] + ask_row(KEY, 1, 1, 300, 0))
        calls = GRANTED + [("garble", 1, 1, 1), ("garble", 1, 1, 99990), ("to_meter", 1, 6), ("registers", 1)]
        self.assertEqual(last(calls), [1, 4, 0, 300, 0, 1])

    def test_the_grant_is_put_again_with_the_amount_as_granted(self):
        calls = GRANTED + [("garble", 1, 1, 5), ("to_meter", 1, 6), ("ask", 1, 8), ("to_house", 1), ("to_meter", 1, 6)]
        self.assertEqual(last(calls), [0] + grant_row(KEY, 1, 1, 300))
