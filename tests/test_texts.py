"""The texts of walkers: written, read again, and all that is wrong with other texts."""

import random
import re
import unittest

from handwalk.errors import ParseError
from handwalk.networks import Network
from handwalk.walkers import Carrier, Stroller, StrollingCarrier, Walker
from tests import oracle
from tests.records import records
from tests.samples import (
    QuickTestCase, deep_values, greatest_networks, larger_networks, networks_of_five, odd_tuples, odd_values,
    random_state, small_networks,
)

A = Network(2, ((0, 1), (0, 1)))
B = Network(2, ((0, 1), (1, 1)))
TEXT = "network 2\npassage 0 1\npassage 1 1\nwalk 0 1 1 0 0"


def fault(text):
    """Return the line and the word that are to be named, or None if the text is right."""
    places, passages, walked = None, [], False
    number = 0
    for number, line in enumerate(text.split("\n"), 1):
        if not re.fullmatch("[^ ]+( [^ ]+)*", line):
            return number, 0
        first, *words = line.split(" ")
        numbers = [int(word) if re.fullmatch("0|[1-9][0-9]{0,3}", word) else None for word in words] + [None]
        if walked:
            return number, 1
        if number == 1:
            if first != "network":
                return 1, 1
            places = numbers[0]
            if places is None or not 1 <= places <= 12:
                return 1, 2
            if len(words) > 1:
                return 1, 3
        elif first == "passage" and len(passages) < 16:
            if numbers[0] is None or numbers[0] >= places:
                return number, 2
            if numbers[1] is None or not numbers[0] <= numbers[1] < places:
                return number, 3
            if len(words) > 2:
                return number, 4
            passages.append((numbers[0], numbers[1]))
        elif first == "walk" and is_connected(places, passages):
            place, walked = 0, True
            for at, step in enumerate(numbers[:-1]):
                if step is None or step >= len(passages) or place not in passages[step] or at == 1000:
                    return number, at + 2
                place = sum(passages[step]) - place
        else:
            return number, 1
    return None if walked else (number + 1, 1)


def is_connected(places, passages):
    reached = {0}
    for _ in range(places):
        for pair in passages:
            if reached & set(pair):
                reached |= set(pair)
    return len(reached) == places


class TextTestCase(QuickTestCase):
    def check_fault(self, text, expected):
        """Check that the text is wrong at this line and word, whoever reads it."""
        for maker in (Walker, Stroller):
            error = self.caught(ParseError, maker.read, text)
            self.assertEqual((error.line, error.word), expected)
        for maker in (Walker, Stroller, Carrier, StrollingCarrier):
            self.assertIs(maker.is_text(text), False)

    def check_right(self, text):
        for maker in (Walker, Stroller):
            walker = maker.read(text)
            self.assertIs(type(walker), maker)
            self.assertIs(maker.is_text(text), True)
            twin = maker(walker.network, *[int(word) for word in text.split("\n")[-1].split(" ")[1:]])
            self.assertTrue(walker == twin)
            lines = text.split("\n")
            self.assertEqual(walker.network.places, int(lines[0].split(" ")[1]))
            self.assertEqual(walker.network.passages, tuple(
                tuple(int(word) for word in line.split(" ")[1:]) for line in lines[1:-1]
            ))

    def check(self, text):
        expected = fault(text)
        if expected is None:
            self.check_right(text)
        else:
            self.check_fault(text, expected)


class TestWriting(TextTestCase):
    def test_known_texts(self):
        for walker, text in (
            (Walker(Network(1, ())), "network 1\nwalk"),
            (Walker(A), "network 2\npassage 0 1\npassage 0 1\nwalk"),
            (Walker(B, 0, 1, 1, 0, 0), TEXT),
            (Stroller(B, 0, 1, 1, 0, 0), "network 2\npassage 0 1\npassage 1 1\nwalk 0"),
            (Carrier(A, 1, thing=0, position=2), "network 2\npassage 0 1\npassage 0 1\nwalk 1"),
            (StrollingCarrier(A, 1, 1, 0, thing=0, position=2), "network 2\npassage 0 1\npassage 0 1\nwalk 0"),
            (Walker(Network(12, tuple((k, 11) for k in range(12))), 0, 10, 10, 11),
             "network 12\n" + "".join(f"passage {k} 11\n" for k in range(12)) + "walk 0 10 10 11"),
        ):
            self.assertEqual(walker.text(), text)
            self.assertIs(type(walker.text()), str)

    def test_the_text_of_every_walker_is_read_again(self):
        rng = random.Random(61)
        for network in small_networks()[::2] + larger_networks() + greatest_networks() + networks_of_five()[::9]:
            for plain in records(network, rng):
                for steps in (0, 1, 40):
                    _, walk = random_state(network, rng, steps)
                    record, _ = plain.after(walk)
                    walker = record.made(*walk)
                    text = walker.text()
                    self.assertEqual(text, record.text())
                    self.assertIs(Walker.is_text(text), True)
                    self.assertTrue(Walker.read(text) == Walker(network, *walker.steps))
                    self.assertTrue(Stroller.read(text) == Stroller(network, *walker.steps))
                    self.assertEqual(Walker.read(text).text(), text)
                    if record.strolls:
                        self.assertEqual(Stroller.read(text).text(), text)
                    self.check_right(text)

    def test_a_stroller_takes_the_steps_of_a_text_one_by_one(self):
        stroller = Stroller.read(TEXT)
        self.assertEqual((stroller.steps, stroller.state), ((0,), (1, (2, 1, 0))))
        self.assertEqual(Walker.read(TEXT).steps, (0, 1, 1, 0, 0))
        self.assertIs(type(Stroller.read(TEXT)), Stroller)
        self.assertIs(type(Walker.read(TEXT)), Walker)

    def test_they_can_be_called_on_objects(self):
        self.assertTrue(Walker(A).read(TEXT) == Walker.read(TEXT))
        self.assertIs(type(Stroller(A).read(TEXT)), Stroller)
        self.assertIs(Carrier(A, thing=0, position=0).is_text(TEXT), True)

    def test_by_name(self):
        self.assertTrue(Walker.read(text=TEXT) == Walker.read(TEXT))
        self.assertIs(Walker.is_text(value=TEXT), True)


class TestKnownFaults(TextTestCase):
    def test_empty_lines_and_line_feeds(self):
        for text, expected in (
            ("", (1, 0)), ("\n", (1, 0)), (" ", (1, 0)), ("\n" + TEXT, (1, 0)), (TEXT + "\n", (5, 0)),
            (TEXT + "\n\n", (5, 0)), ("network 2\n", (2, 0)), ("network 2\npassage 0 1\n", (3, 0)),
            ("network 2\n\npassage 0 1\nwalk", (2, 0)), ("network 1\n\nwalk", (2, 0)), ("network 1\nwalk\n", (3, 0)),
        ):
            self.check_fault(text, expected)

    def test_spaces(self):
        for text, expected in (
            (" network 1\nwalk", (1, 0)), ("network 1 \nwalk", (1, 0)), ("network  1\nwalk", (1, 0)),
            ("network 1\n walk", (2, 0)), ("network 1\nwalk ", (2, 0)), ("network 1\nwa  lk", (2, 0)),
            ("nothing  13\nwalk", (1, 0)), ("nothing \nwalk", (1, 0)), (" x y z", (1, 0)),
            ("network 2\npassage 0  1\nwalk", (2, 0)), ("network 2\npassage 9 9 \nwalk", (2, 0)),
            ("network 2\npassage 0 1\nwalk 0  0", (3, 0)), ("network 2\npassage 0 1\nwalk 9 9 ", (3, 0)),
            ("network 2\npassage 0 0\nwalk 0 ", (3, 0)), ("network 2\n walk", (2, 0)),
            ("network 1\nwalk\n ", (3, 0)), ("network 1\nwalk\nwalk  0", (3, 0)), ("network 1\nwalk\nwalk ", (3, 0)),
            ("network\t1\nwalk", (1, 1)), ("network 1\nwalk\t", (2, 1)), ("network 1\r\nwalk", (1, 2)),
            ("network 1\rwalk", (1, 2)), ("network 1\x0bwalk", (1, 2)), ("network 1\u2028walk", (1, 2)),
            ("network\u00a01\nwalk", (1, 1)), ("network 1\nwalk\u3000", (2, 1)),
        ):
            self.check_fault(text, expected)

    def test_the_line_network(self):
        for text, expected in (
            ("network", (1, 2)), ("network\nwalk", (1, 2)), ("Network 1\nwalk", (1, 1)), ("walk", (1, 1)),
            ("passage 0 1", (1, 1)), ("network 0\nwalk", (1, 2)), ("network 13\nwalk", (1, 2)),
            ("network 12", (2, 1)), ("network 01\nwalk", (1, 2)), ("network +1\nwalk", (1, 2)),
            ("network -1\nwalk", (1, 2)), ("network 1.0\nwalk", (1, 2)), ("network 1_0\nwalk", (1, 2)),
            ("network x\nwalk", (1, 2)), ("network 1 1\nwalk", (1, 3)), ("network 1 x y\nwalk", (1, 3)),
            ("network 13 1\nwalk", (1, 2)), ("network network 1", (1, 2)), ("1 network", (1, 1)), ("network1", (1, 1)),
            ("network " + "1" * 5, (1, 2)), ("network " + "1" * 5000, (1, 2)), ("network 00", (1, 2)),
            ("network \u0661\nwalk", (1, 2)), ("network \u00b2\nwalk", (1, 2)), ("network one\nwalk", (1, 2)),
        ):
            self.check_fault(text, expected)

    def test_the_lines_passage(self):
        for line, word in (
            ("passage", 2), ("passage 0", 3), ("passage 1", 3), ("passage 1 0", 3), ("passage 0 2", 3),
            ("passage 2 2", 2), ("passage 2", 2), ("passage -1 0", 2), ("passage 0 -1", 3), ("passage 00 1", 2),
            ("passage 0 01", 3), ("passage 0 1 1", 4), ("passage 0 1 x", 4), ("passage 0 1 2 3", 4), ("passage x", 2),
            ("passages 0 1", 1), ("Passage 0 1", 1), ("0 1", 1), ("network 2", 1), ("passage 0,1", 2),
            ("passage 0 " + "1" * 3000, 3), ("passage " + "0" * 3000 + " 1", 2), ("passage 0 +1", 3), ("Walk", 1),
            ("walks", 1), ("x", 1), ("-", 1), ("passage walk", 2), ("passage 0 walk", 3), ("passage 0 1 walk", 4),
        ):
            self.check_fault("network 2\n" + line, (2, word))
            self.check_fault("network 2\npassage 0 1\n" + line + "\nwalk", (3, word))
            self.check_fault("network 2\npassage 0 1\n" + line + "\nnothing  right\n", (3, word))

    def test_the_line_walk(self):
        for line, word in (
            ("walk 2", 2), ("walk 1", 2), ("walk 0 1 0 1", 5), ("walk 0 2", 3), ("walk x", 2), ("walk -0", 2),
            ("walk 00", 2), ("walk 0 01", 3), ("walk 0 +1", 3), ("walk 0 1 " + "1" * 5, 4), ("walk 0 0 " + "9" * 4000, 4),
            ("walk 0 0 0000", 4), ("walk 0 1 walk", 4), ("walk 0,0", 2), ("walk 0 1 1 0 1", 6), ("walk 10", 2),
        ):
            self.check_fault("network 2\npassage 0 1\npassage 1 1\n" + line, (4, word))
            self.check_fault("network 2\npassage 0 1\npassage 1 1\n" + line + "\n", (4, word))

    def test_a_missing_line_walk(self):
        for text, expected in (
            ("network 1", (2, 1)), ("network 2", (2, 1)), ("network 1\npassage 0 0", (3, 1)),
            ("network 2\npassage 0 1\npassage 0 1", (4, 1)), ("network 12\npassage 0 1", (3, 1)),
            ("network 1" + "\npassage 0 0" * 16, (18, 1)),
        ):
            self.check_fault(text, expected)

    def test_a_line_behind_the_line_walk(self):
        for line, word in (
            ("walk", 1), ("passage 0 1", 1), ("x", 1), ("", 0), (" ", 0), ("walk ", 0), (" walk", 0), ("a  b", 0),
            ("walk 0 1\nwalk", 1), ("network 2", 1), ("walk\n", 1), ("\nwalk", 0),
        ):
            self.check_fault(TEXT + "\n" + line, (5, word))
            self.check_fault("network 1\nwalk\n" + line, (3, word))

    def test_a_network_that_is_not_connected(self):
        for text, expected in (
            ("network 2\nwalk", (2, 1)), ("network 2\npassage 0 0\nwalk 0", (3, 1)), ("network 2\nwalk 9", (2, 1)),
            ("network 3\npassage 0 1\nwalk", (3, 1)), ("network 4\npassage 0 1\npassage 2 3\nwalk 0", (4, 1)),
            ("network 12" + "\npassage 0 1" * 16 + "\nwalk", (18, 1)), ("network 2\nwalk\n", (2, 1)),
            ("network 2\nwalk ", (2, 0)), ("network 2\nwalk  0", (2, 0)),
        ):
            self.check_fault(text, expected)
        self.check_right("network 4\npassage 0 1\npassage 2 3\npassage 1 3\nwalk 0 2 1")

    def test_sixteen_and_seventeen_passages(self):
        for places in (1, 2):
            pair = "\npassage 0 " + str(places - 1)
            start = "network " + str(places)
            self.check_right(start + pair * 16 + "\nwalk 15 15")
            self.check_fault(start + pair * 17 + "\nwalk", (18, 1))
            self.check_fault(start + pair * 16 + "\npassage 0 0 \nwalk", (18, 0))
            self.check_fault(start + pair * 16 + "\npassage 0 x y\nwalk", (18, 1))
            self.check_fault(start + pair * 16 + "\npassage", (18, 1))
            self.check_fault(start + pair * 16 + "\nwalk 16", (18, 2))
            self.check_fault(start + pair * 15 + "\nwalk 15", (17, 2))

    def test_a_thousand_steps(self):
        text = "network 2\npassage 0 1\npassage 0 1\nwalk"
        for steps in (" 0" * 1000, " 0 1" * 500, " 1" * 999):
            self.check_right(text + steps)
        self.assertEqual(len(Walker.read(text + " 0" * 1000)), 1000)
        self.assertEqual(len(Stroller.read(text + " 0" * 1000)), 0)
        for steps in (" 0" * 1001, " 0 1" * 501, " 0 1" * 2000, " 0" * 1000 + " x", " 0" * 1000 + " 2"):
            self.check_fault(text + steps, (4, 1002))
        self.check_fault(text + " 0" * 999 + " 2 0 0", (4, 1001))
        self.check_fault(text + " 0" * 1001 + "\n", (4, 1002))
        self.check_fault(text + " 0" * 1001 + " ", (4, 0))

    def test_numbers_with_four_and_more_digits(self):
        for digits in ("1000", "9999", "10000", "0001", "9" * 900, "1" * 4300, "1" * 5000, "1" * 19000):
            self.check_fault("network " + digits + "\nwalk", (1, 2))
            self.check_fault("network 2\npassage 0 " + digits + "\nwalk", (2, 3))
            self.check_fault("network 2\npassage 0 1\nwalk 0 " + digits, (3, 3))

    def test_values_that_are_no_texts(self):
        values = [value for value in odd_values() + odd_tuples() if not isinstance(value, str)]
        values += [0, 1, TEXT.encode(), [TEXT], (TEXT,), TEXT.split("\n"), Walker(A), Walker, *deep_values()]
        for value in values:
            self.check_fault(value, (0, 0))

    def test_texts_that_are_something_else(self):
        for text in ("0", "01", "walk 0 1", "network", "\x00", "network 1\x00\nwalk", "\u00e9"):
            self.check_fault(text, fault(text))


class TestChangedTexts(TextTestCase):
    def samples(self, rng):
        found = [TEXT, Walker(A, 0, 1).text(), Walker(Network(1, ())).text()]
        for network in larger_networks()[3:12] + networks_of_five()[::19]:
            found.append(Walker(network, *random_state(network, rng, 6)[1]).text())
        return found

    def test_one_sign_more(self):
        for text in (TEXT, "network 1\nwalk", "network 12" + "".join(f"\npassage {k} 11" for k in range(11)) + "\nwalk 0"):
            for at in range(len(text) + 1):
                for sign in " \n0129-x":
                    self.check(text[:at] + sign + text[at:])

    def test_one_sign_less_or_another_one(self):
        for text in (TEXT, "network 1\npassage 0 0\nwalk 0"):
            for at in range(len(text)):
                self.check(text[:at] + text[at + 1:])
                for sign in " \n019x":
                    self.check(text[:at] + sign + text[at + 1:])

    def test_one_word_less_more_or_another_one(self):
        rng = random.Random(68)
        for text in self.samples(rng):
            lines = [line.split(" ") for line in text.split("\n")]
            for number, words in enumerate(lines):
                for at in range(len(words) + 1):
                    further = rng.choice(("0", "1", "2", "11", "12", "16", "007", "walk", "passage", "x", "-1", "12345"))
                    changed = [words[:at] + [further] + words[at:], words[:at] + [further] + words[at + 1:],
                               words[:at] + words[at + 1:], words[:at]]
                    for other in changed:
                        rows = lines[:number] + [other] + lines[number + 1:]
                        self.check("\n".join(" ".join(row) for row in rows))

    def test_one_line_less_more_or_elsewhere(self):
        rng = random.Random(69)
        for text in self.samples(rng):
            lines = text.split("\n")
            for number in range(len(lines)):
                self.check("\n".join(lines[:number] + lines[number + 1:]))
                self.check("\n".join(lines[:number + 1]))
                for other in range(len(lines)):
                    self.check("\n".join(lines[:number] + [lines[other]] + lines[number:]))
                    rows = list(lines)
                    rows[number], rows[other] = rows[other], rows[number]
                    self.check("\n".join(rows))

    def test_many_changes(self):
        rng = random.Random(70)
        right = 0
        samples = self.samples(rng)
        for _ in range(4000):
            signs = list(rng.choice(samples))
            for _ in range(rng.randrange(1, 4)):
                at = rng.randrange(len(signs) + 1)
                signs[at:at + rng.randrange(3)] = rng.choices(" \n0123456789walkpe", k=rng.randrange(3))
            self.check("".join(signs))
            right += fault("".join(signs)) is None
        self.assertTrue(right > 100)

    def test_what_the_oracle_says_of_right_texts(self):
        rng = random.Random(71)
        for network in larger_networks():
            _, walk = random_state(network, rng, 10)
            text = Walker(network, *walk).text()
            self.assertIsNone(fault(text))
            self.assertEqual(Walker.read(text).state, oracle.walked(network, oracle.start_of(network), walk))


if __name__ == "__main__":
    unittest.main()
