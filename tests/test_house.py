"""The interface: what is handed in, what is given back, and that nothing else happens."""

import contextlib
import io
import sys
import unittest

from postmeters.house import answers
from tests.helper import KEY, LEAST, METER, MOST, flat, grant_row, imprint_row, made, refill, run

SESSION = METER + refill(5000) + [
    ("day", 3), ("imprint", 1, 120, 7), ("imprint", 1, 9, 4), ("boot", 1), ("voucher", 5, 70), ("redeem", 1, "V0000000059"),
    ("redeem", 1, "x"), ("ask", 1, 8), ("double", 0, 1), ("garble", 0, 2, 5), ("lines",), ("lose", 0, 1), ("to_house", 1),
    ("scan", made(1, 120, 3)), ("judge", made(1, 120, 3)), ("judge", "x"), ("spoil", 1, made(2, 30)), ("registers", 1),
    ("banks", 1), ("told", 1), ("text", 1, 9, 8, 7), ("check", "V0000000059"), ("check", "x"), ("stop", 1), ("told", 1),
    ("withdraw", 1), ("balance", 1), ("statement", 1, 2), ("lines",), ("counts",),
]


class SealedList(list):
    """A list that fails when it is changed, even if the change is taken back."""

    def fail(self, *parts):
        raise AssertionError("the list handed in was changed")

    append = extend = insert = pop = remove = clear = sort = reverse = fail
    __setitem__ = __delitem__ = __iadd__ = __imul__ = fail


class Form(unittest.TestCase):
    def test_calls_as_they_are_handed_in(self):
        calls = [0, 2, 3, 1, 100000, 4, 5, 70, 5, 1, 11, 86, 48, 48, 48, 48, 48, 48, 48, 48, 53, 57]
        calls += [6, 1, 5, 11, 1, 1000, 12, 1, 13, 1, 6, 9, 1, 100, 7, 9, 1, 100, 0, 10, 1, 11, 1, 9, 14, 0, 1]
        calls += [7, 1, 8, 1, 1, 30]
        told = [1, 0, 1, 1, 1, 100000, 13, 1, 11, 86, 48, 48, 48, 48, 48, 48, 48, 48, 53, 57, 1, 70]
        told += [1, 1, 7, 1, 5, 1, 1, 1000, 0, 43997, 7, 1, 5, 1, 1, 1000, 0, 43997, 6, 0, 4, 1, 1, 1000, 79593]
        told += [22, 1, 20] + list(b"M1.1 V1.00 D0 C63301") + [2, 0, 0, 7, 0, 5, 3, 100, 900, 1, 1]
        told += [7, 2, 5, 1, 2, 9, 1000, 15237, 1, 0, 1, 0, 7, 900, 5, 3, 100, 900, 1, 1, 1, 30]
        self.assertEqual(answers(calls), told)

    def test_the_calls_behind_them_as_they_are_handed_in(self):
        text = list(b"M1.1 V1.00 D0 C63301")
        calls = [2, 3, 1, 5000, 6, 1, 5, 11, 1, 1000, 15, 0, 1, 16, 0, 2, 99990, 25, 17, 20] + text + [19, 20] + text
        calls += [18, 1, 20] + list(b"M1.2 V0.30 D0 C62092") + [12, 1, 13, 1, 6, 20, 1, 21, 1, 22, 1, 7, 1, 22, 1, 23, 1]
        calls += [24, 1, 2, 25, 26, 27, 1, 1, 100, 0, 28, 11] + list(b"V0000000059") + [28, 1, 86, 17, 0, 19, 0, 26]
        told = [1, 1, 1, 5000, 1, 1, 7, 1, 5, 1, 1, 1000, 0, 43997, 1, 0, 1, 0]
        told += [13, 2, 5, 1, 1, 1000, 0, 43997, 5, 1, 1, 999, 0, 43997, 3, 1, 1, 100, 7, 8, 5, 1, 1, 100, 0, 63301]
        told += [1, 28, 7, 1, 5, 1, 1, 1000, 0, 43997, 6, 0, 4, 1, 1, 1000, 79593, 6, 1, 4, 0, 1000, 0, 1]
        told += [13, 1, 5, 1, 0, 0, 0, 0, 5, 2, 0, 1000, 0, 1, 4, 1, 1, 1000, 0, 1, 0, 5, 1, 1, 1000, 1, 0, 1, 4028]
        told += [11, 2, 4, 0, 5, 28, 1, 4, 0, 3, 1000, 1, 7, 1, 5, 1, 1, 999, 0, 43997]
        counts = [10, 0, 8, 1, 1, 0, 3, 1, 0, 1, 1]
        told += counts + [22, 0, 20] + text + [3, 1, 1, 5, 1, 0, 2, 2, 0, 2, 2, 0] + counts
        self.assertEqual(answers(calls), told)

    def test_refusals_of_the_calls_behind_them_stand_alone(self):
        calls = [15, 0, 1, 16, 0, 1, 0, 17, 201] + [7] * 201 + [18, 1, 1, 9, 19, 201] + [7] * 201
        calls += [20, 1, 21, 0, 22, 1, 23, 1, 24, 1, 0, 27, 1, 1, 1, 1, 28, 201] + [7] * 201 + [1, 3]
        told = [1, -4, 1, -1, 1, -1, 1, -4, 1, -1, 1, -4, 1, -1, 1, -4, 1, -4, 1, -1, 1, -4, 1, -1, 1, 3]
        self.assertEqual(answers(calls), told)

    def test_refusals_stand_alone(self):
        calls = [1, -1, 3, 1, 5, 5, 1, 0, 6, 1, 1, 7, 1, 8, 0, 9, 1, 1, 8, 10, 11, 11, 1, 1, 12, 1, 13, 1, 6, 14, 2, 1]
        told = [1, -1, 1, -4, 1, -4, 1, -4, 1, -4, 1, -1, 1, -1, 1, -1, 1, -4, 1, -4, 1, -4, 1, -1]
        self.assertEqual(answers(calls), told)

    def test_the_widest_numbers(self):
        calls = [1, LEAST, 1, MOST, 3, MOST, LEAST, 5, LEAST, 0, 9, LEAST, MOST, LEAST, 13, MOST, LEAST, 1, 0]
        self.assertEqual(answers(calls), [1, -1, 1, -1, 1, -1, 1, -1, 1, -1, 1, -1, 1, 0])
        calls = [15, LEAST, MOST, 16, MOST, LEAST, MOST, 18, MOST, 0, 20, LEAST, 21, MOST, 22, LEAST, 23, MOST]
        calls += [24, LEAST, MOST, 27, MOST, LEAST, MOST, LEAST, 1, 0]
        self.assertEqual(answers(calls), [1, -1] * 9 + [1, 0])

    def test_texts_are_skipped_whole(self):
        for text in ([], [0], [5, 1, 3], list(range(256)), [255] * 1000):
            row = [len(text)] + text
            self.assertEqual(answers([2, 5, 1] + row + [1, 7]), [1, 1, 1, -2, 1, 7])
            self.assertEqual(answers([2, 18, 1] + row + [1, 7]), [1, 1, 1, -1 if len(text) > 200 else -2, 1, 7])
            for call, reply in ((17, [2, 2, 0]), (19, [2, 2, 0]), (28, [1, 0])):
                self.assertEqual(answers([call] + row + [1, 7]), ([1, -1] if len(text) > 200 else reply) + [1, 7])

    def test_whole_numbers_alone_are_given_back(self):
        told = answers(flat(SESSION))
        self.assertIs(type(told), list)
        self.assertEqual({type(number) for number in told}, {int})


class NothingElse(unittest.TestCase):
    def test_the_list_stays_as_it_was(self):
        calls = flat(SESSION)
        kept = list(calls)
        told = answers(calls)
        self.assertEqual(calls, kept)
        self.assertEqual(answers(SealedList(calls)), told)

    def test_what_is_given_back_is_new(self):
        calls = flat(SESSION)
        told = answers(calls)
        kept = list(told)
        told.clear()
        self.assertEqual(answers(calls), kept)

    def test_nothing_is_kept(self):
        alone = answers([1, 0, 2, 4, 5, 70, 7, 1, 12, 1])
        answers(flat(SESSION))
        self.assertEqual(answers([1, 0, 2, 4, 5, 70, 7, 1, 12, 1]), alone)
        self.assertEqual(answers(flat(SESSION)), answers(flat(SESSION)))

    def test_nothing_is_printed_read_or_imported(self):
        out = io.StringIO()
        modules = set(sys.modules)
        given = sys.stdin
        sys.stdin = None
        try:
            with contextlib.redirect_stdout(out), contextlib.redirect_stderr(out):
                answers(flat(SESSION))
        finally:
            sys.stdin = given
        self.assertEqual(out.getvalue(), "")
        self.assertEqual(set(sys.modules), modules)


class LongLists(unittest.TestCase):
    def test_four_hundred_imprints(self):
        calls = METER + refill(90000) + [("imprint", 1, 200 + place, 7) for place in range(394)]
        told = run(calls)
        self.assertEqual(len(told), 400)
        spent = 0
        for place, reply in enumerate(told[6:]):
            spent += 200 + place
            right = [-7] if spent > 90000 else [1] + imprint_row(KEY, 1, place + 1, 200 + place, 0)
            if spent > 90000:
                spent -= 200 + place
            self.assertEqual(reply, right, place)

    def test_a_hundred_refills(self):
        told = run(METER + [call for place in range(130) for call in refill(place + 1)])
        self.assertEqual(told[-1], [0] + grant_row(KEY, 1, 130, 130))

    def test_sixteen_thousand_numbers(self):
        calls = [("account",)] + [("redeem", 1, [86] * 1000)] * 15
        self.assertEqual(run(calls), [[1]] + [[-2]] * 15)

    def test_sixteen_thousand_numbers_of_each_call_with_text(self):
        for call in (17, 19, 28):
            self.assertEqual(answers([call, 1000] + [77] * 1000), [1, -1])
            self.assertEqual(answers(([call, 200] + [77] * 200) * 79), ([1, 0] if call == 28 else [2, 2, 0]) * 79)
        self.assertEqual(answers([2] + ([18, 1, 1000] + [77] * 1000) * 15), [1, 1] + [1, -1] * 15)

    def test_four_hundred_scans(self):
        calls = METER + [("scan", made(piece)) for piece in range(1, 396)] + [("scan", made(1)), ("counts",)]
        self.assertEqual(run(calls), [[1], [100000000], [1]] + [[1, 1, 100]] * 395 + [[8, 0], [0, 8, 1, 1, 0, 1, 0, 0, 395, 0]])

    def test_begin_between(self):
        calls = [("account",), ("begin",)] * 200
        self.assertEqual(run(calls), [[1], [0]] * 200)
