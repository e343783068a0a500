"""Call 0: the form of a schedule's text, the place of its fault, and the refusals."""

import unittest

from tests.calls import FAR, last, replies, schedule

A = "fee a 1"


def fault(text):
    """The place of the fault of this text."""
    return -1000 - last(schedule(5, text))


def many(count):
    """A text of so many fees with different names."""
    return "\n".join(f"fee {chr(97 + i % 26)}{chr(97 + i // 26)} {i}" for i in range(count))


class GoodTexts(unittest.TestCase):
    def test_answers_how_many_fees_there_are(self):
        self.assertEqual(last(schedule(5, A)), 1)
        self.assertEqual(last(schedule(5, "fee a 1\nfee b 2")), 2)
        self.assertEqual(last(schedule(5, "fee a 1\nfee b 2 shared\nfee c 3 late 5")), 3)

    def test_every_choice_of_the_four(self):
        options = (" above 10000", " late 100", " small 100", " shared")
        for choice in range(16):
            chosen = "".join(o for i, o in enumerate(options) if choice >> i & 1)
            with self.subTest(chosen=chosen):
                self.assertEqual(last(schedule(5, "fee a 1" + chosen)), 1)
                self.assertEqual(last(schedule(5, f"fee a 1{chosen}\nfee b 2{chosen}")), 2)

    def test_numbers_at_their_ends(self):
        for text in ("fee a 0", "fee a 999999999", "fee a 9", "fee a 10", "fee a 100000000",
                     "fee a 1 above 0 late 0 small 0", "fee a 1 above 9999 late 99 small 99"):
            with self.subTest(text=text):
                self.assertEqual(last(schedule(5, text)), 1)

    def test_names_at_their_ends(self):
        for name in ("a", "z", "az", "abcdefghijkl", "zzzzzzzzzzzz", "fe", "fees", "afee", "abov", "abovee",
                     "lat", "later", "smal", "smaller", "share", "shareds"):
            with self.subTest(name=name):
                self.assertEqual(last(schedule(5, f"fee {name} 1")), 1)

    def test_the_days_at_their_ends(self):
        self.assertEqual(replies(schedule(0, A), schedule(100000, A)), [1, 1])


class EmptyWords(unittest.TestCase):
    def test_a_text_without_bytes(self):
        self.assertEqual(last(schedule(5, "")), -1000)

    def test_blanks_and_line_ends_alone(self):
        for text in (" ", "\n", "  ", "\n\n", " \n", "\n "):
            with self.subTest(text=text):
                self.assertEqual(fault(text), 0)

    def test_at_the_beginning(self):
        for beginning in (" ", "\n", "  ", "\n\n", " \n", "\n "):
            with self.subTest(beginning=beginning):
                self.assertEqual(fault(beginning + A), 0)

    def test_at_the_end(self):
        self.assertEqual(fault("fee a 1 "), 8)
        self.assertEqual(fault("fee a 1\n"), 8)
        self.assertEqual(fault("fee a 1 shared "), 15)
        self.assertEqual(fault("fee a 1 shared\n"), 15)
        self.assertEqual(fault("fee a 1\nfee b 2\n"), 16)

    def test_at_the_end_where_words_are_missing(self):
        self.assertEqual(fault("fee "), 4)
        self.assertEqual(fault("fee a "), 6)
        self.assertEqual(fault("fee a 1 above "), 14)

    def test_two_blanks(self):
        self.assertEqual(fault("fee  a 1"), 4)
        self.assertEqual(fault("fee a  1"), 6)
        self.assertEqual(fault("fee a 1  shared"), 8)
        self.assertEqual(fault("fee a 1 late  5"), 13)
        self.assertEqual(fault("fee a 1  "), 8)
        self.assertEqual(fault("fee   a 1"), 4)

    def test_two_line_ends(self):
        self.assertEqual(fault("fee a 1\n\nfee b 2"), 8)
        self.assertEqual(fault("fee a 1\n\n"), 8)
        self.assertEqual(fault("fee a 1\nfee b 2\n\n\nfee c 3"), 16)

    def test_a_blank_before_a_line_end(self):
        self.assertEqual(fault("fee a 1 \nfee b 2"), 8)
        self.assertEqual(fault("fee a 1 late 5 \nfee b 2"), 15)
        self.assertEqual(fault("fee a 1 \n"), 8)

    def test_a_blank_behind_a_line_end(self):
        self.assertEqual(fault("fee a 1\n fee b 2"), 8)
        self.assertEqual(fault("fee a 1\n "), 8)

    def test_blanks_on_both_sides_of_a_line_end(self):
        self.assertEqual(fault("fee a 1 \n fee b 2"), 8)


class MissingWords(unittest.TestCase):
    def test_the_place_is_the_length(self):
        for text in ("fee", "fee a", "fee a 1 above", "fee a 1 late", "fee a 1 small",
                     "fee a 1 above 2 late", "fee a 1 above 2 late 3 small",
                     "fee a 1\nfee", "fee a 1\nfee b", "fee a 1\nfee b 2 above"):
            with self.subTest(text=text):
                self.assertEqual(fault(text), len(text))

    def test_a_line_end_where_words_are_missing(self):
        self.assertEqual(fault("fee\nfee b 2"), 3)
        self.assertEqual(fault("fee a\nfee b 2"), 5)
        self.assertEqual(fault("fee a 1 above\nfee b 2"), 13)
        self.assertEqual(fault("fee a 1 late\nfee b 2"), 12)
        self.assertEqual(fault("fee a 1 small\nfee b 2"), 13)
        self.assertEqual(fault("fee a\n"), 5)
        self.assertEqual(fault("fee \na 1"), 4)


class WrongWords(unittest.TestCase):
    def test_other_than_fee_at_a_line_s_beginning(self):
        for word in ("a", "fe", "fees", "Fee", "FEE", "1", "above", "shared", "feea"):
            with self.subTest(word=word):
                self.assertEqual(fault(f"{word} a 1"), 0)
                self.assertEqual(fault(f"fee a 1\n{word} b 2"), 8)

    def test_no_names(self):
        for name in ("fee", "above", "late", "small", "shared", "abcdefghijklm", "A", "aB", "1", "a1", "1a",
                     "a-b", "a_b", "`", "{", "a`", "a{", "a\t", "a\r", "\u00e4", "\x00", "a\x00", "\x0b", "\xff"):
            with self.subTest(name=name):
                self.assertEqual(fault(f"fee {name} 1"), 4)
                self.assertEqual(fault(f"fee a 1\nfee {name} 1"), 12)

    def test_no_numbers(self):
        for number in ("00", "01", "000000001", "0123456789", "1000000000", "1234567890", "a", "1a", "a1", "-1",
                       "+1", "1.0", "1_0", "/", ":", "1/", "1:", "/1", "fee", "above", "shared", "\xb2", "\x00"):
            with self.subTest(number=number):
                self.assertEqual(fault(f"fee a {number}"), 6)
                self.assertEqual(fault(f"fee a 1 above {number}"), 14)
                self.assertEqual(fault(f"fee a 1 late {number}"), 13)
                self.assertEqual(fault(f"fee a 1 small {number}"), 14)
                self.assertEqual(fault(f"fee a {number} shared"), 6)
                self.assertEqual(fault(f"fee a 1 above 2 late 3 small {number}"), 29)

    def test_numbers_too_great_behind_the_words(self):
        for number in ("10001", "10010", "99999", "999999999"):
            self.assertEqual(fault(f"fee a 1 above {number}"), 14)
        for number in ("101", "110", "200", "1000", "999999999"):
            self.assertEqual(fault(f"fee a 1 late {number}"), 13)
            self.assertEqual(fault(f"fee a 1 small {number}"), 14)
            self.assertEqual(fault(f"fee a 1 above 3 late {number} small 4 shared"), 21)
        self.assertEqual(fault("fee a 1 above 10001 x"), 14)

    def test_the_four_in_another_order(self):
        words = ("above 2", "late 3", "small 4", "shared")
        for first in range(4):
            for second in range(first + 1):
                text = f"fee a 1 {words[first]} {words[second]}"
                with self.subTest(text=text):
                    self.assertEqual(fault(text), len(text) - len(words[second]))

    def test_words_that_are_too_many(self):
        self.assertEqual(fault("fee a 1 2"), 8)
        self.assertEqual(fault("fee a b 1"), 6)
        self.assertEqual(fault("fee a 1 x"), 8)
        self.assertEqual(fault("fee a 1 fee b 2"), 8)
        self.assertEqual(fault("fee a 1 shared 2"), 15)
        self.assertEqual(fault("fee a 1 above 2 3"), 16)
        self.assertEqual(fault("fee a 1 shared fee b 2"), 15)

    def test_words_close_to_the_right_ones(self):
        self.assertEqual(fault("fee a 1 Above 2"), 8)
        self.assertEqual(fault("fee a 1 abov 2"), 8)
        self.assertEqual(fault("fee a 1 later 2"), 8)
        self.assertEqual(fault("fee a 1 smal 2"), 8)
        self.assertEqual(fault("fee a 1 sharedx"), 8)
        self.assertEqual(fault("fee a 1 share"), 8)

    def test_other_blanks_part_no_words(self):
        self.assertEqual(fault("fee\ta 1"), 0)
        self.assertEqual(fault("fee a\t1"), 4)
        self.assertEqual(fault("fee a 1\r\nfee b 2"), 6)
        self.assertEqual(fault("fee\xa0a 1"), 0)

    def test_the_first_fault_is_told(self):
        self.assertEqual(fault("fee a 01\nfee  b"), 6)
        self.assertEqual(fault("fee a 1 late 101  "), 13)
        self.assertEqual(fault("fee A 01"), 4)

    def test_faults_on_later_lines(self):
        self.assertEqual(fault("fee a 1\nfee b 2 small 101"), 22)
        self.assertEqual(fault("fee a 1 shared\nfee b 2 late 5 above 3"), 30)

    def test_a_fault_at_the_end_of_a_long_text(self):
        text = many(200)[:1990]
        text = text[:text.rindex("\n")]
        self.assertEqual(fault(text + "\n"), len(text) + 1)
        self.assertEqual(last(schedule(5, [120] * 2000)), -1000)
        self.assertEqual(last(schedule(5, "fee a 1" + " " * 1993)), -1008)


class Bytes(unittest.TestCase):
    def test_numbers_that_are_no_bytes(self):
        for number in FAR + (256, 257, 1000):
            with self.subTest(number=number):
                self.assertEqual(last(schedule(5, [number])), -1)
                self.assertEqual(last(schedule(5, list(b"fee a 1") + [number])), -1)
                self.assertEqual(last(schedule(5, [number] + list(b"fee a 1"))), -1)

    def test_the_first_and_the_last_byte(self):
        self.assertEqual(last(schedule(5, [0])), -1000)
        self.assertEqual(last(schedule(5, [255])), -1000)

    def test_more_than_2000_bytes(self):
        self.assertEqual(last(schedule(5, [32] * 2000)), -1000)
        self.assertEqual(last(schedule(5, [32] * 2001)), -1)


class Refusals(unittest.TestCase):
    def test_two_fees_of_one_name(self):
        self.assertEqual(last(schedule(5, "fee a 1\nfee a 1")), -2)
        self.assertEqual(last(schedule(5, "fee a 1\nfee b 2\nfee a 3 shared")), -2)
        self.assertEqual(last(schedule(5, "fee ab 1\nfee ba 2")), 2)

    def test_12_and_13_fees(self):
        self.assertEqual(last(schedule(5, many(12))), 12)
        self.assertEqual(last(schedule(5, many(13))), -4)
        self.assertEqual(last(schedule(5, many(190))), -4)

    def test_a_day_that_has_one(self):
        self.assertEqual(replies(schedule(5, A), schedule(5, A), schedule(6, A), schedule(4, A)), [1, -6, 1, 1])

    def test_8_and_9_schedules(self):
        eight = [schedule(day, A) for day in (70, 10, 60, 20, 50, 30, 40, 0)]
        self.assertEqual(replies(*eight, schedule(80, A)), [1] * 8 + [-9])

    def test_a_refused_one_is_not_counted_and_not_kept(self):
        refused = [schedule(5, "fee a 1\nfee a 2"), schedule(5, many(13)), schedule(5, ""), schedule(5, [256]),
                   schedule(-1, A)] * 3
        eight = [schedule(day, A) for day in range(8)]
        self.assertEqual(replies(*refused, *eight, schedule(8, A))[15:], [1] * 8 + [-9])

    def test_of_several_the_first_is_answered(self):
        full = [schedule(day, A) for day in range(8)]
        self.assertEqual(last(*full, schedule(100001, [256])), -3)
        self.assertEqual(last(*full, schedule(100001, "fee")), -3)
        self.assertEqual(last(*full, schedule(1, [256, 32])), -1)
        self.assertEqual(last(*full, schedule(1, list(b"fee a 01") + [-1])), -1)
        self.assertEqual(last(*full, schedule(1, "fee a 1\nfee a 1\nfee")), -1019)
        self.assertEqual(last(*full, schedule(1, many(13) + "\nfee aa 1")), -2)
        self.assertEqual(last(*full, schedule(9, many(13))), -4)
        self.assertEqual(last(*full, schedule(1, many(13))), -4)
        self.assertEqual(last(*full, schedule(1, many(12))), -6)
        self.assertEqual(last(*full, schedule(9, many(12))), -9)

    def test_days_out_of_range(self):
        for day in FAR + (100001,):
            with self.subTest(day=day):
                self.assertEqual(last(schedule(day, A)), -3)


if __name__ == "__main__":
    unittest.main()
