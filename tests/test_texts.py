"""Point 22: groupings and rows as texts."""

import re
import unittest
from itertools import permutations, product
from random import Random

from groupdeeds.errors import BadGrouping, BadRow, InvalidText, NotText
from groupdeeds.texts import read_grouping, read_row, write_grouping, write_row
from tests.helpers import HUGE, SIZES, Case, bad_rows, no_groupings, plain_groupings, plain_steps
from tests.arguments import no_texts

ONLY = ((0,),)
# Characters that stand in no text: letters, other white space, other digits of Unicode, and other signs.
FOREIGN = "xaO_\t\n\r\v\f\u00a0\u2003\u3000\u0660\u0661\u00b2\uff10\uff11\U0001d7d8\u2070\u00bd\u2460,;:.*()[]'\"\\|\u2044\u2212"


def tokens(text):
    """Return the pairs (place, longest row of digits or single character) of a text, its spaces left out."""
    return [(found.start(), found.group()) for found in re.finditer("[0-9]+|[^0-9]", text) if found.group() != " "]


def good_number(word):
    return word in ("0", "1", "2", "3", "4", "5")


def grouping_place(text):
    """Return the place that a text of a grouping is invalid at, or None."""
    named, want_number = [], True
    for place, word in tokens(text):
        if word == "/" and not want_number:
            want_number = True
        elif good_number(word) and word not in named:
            named.append(word)
            want_number = False
        else:
            return place
    if want_number or max(int(word) for word in named) + 1 != len(named):
        return len(text)
    return None


def row_place(text):
    """Return the place that a text of a row is invalid at, or None."""
    words, many, state, first = tokens(text), 0, "begin", None
    for place, word in words:
        if state == "begin" and good_number(word) and many < 40:
            state, first = "number", word
        elif state == "number" and word in ("+", "-"):
            many, state = (many + 1, "begin") if word == "-" else (many, "plus")
        elif state == "plus" and good_number(word) and word != first:
            many, state = many + 1, "begin"
        else:
            return place
    return None if state == "begin" else len(text)


def loose(words, seed):
    """Return words with loose spaces between them, at least one between two numbers."""
    mixed = Random(seed)
    text = " " * mixed.randrange(3)
    for at, word in enumerate(words):
        least = int(at > 0 and word.isdigit() and words[at - 1].isdigit())
        text += " " * max(least, mixed.choice((0, 0, 1, 4))) + word
    return text + " " * mixed.randrange(3)


def some_row(many, seed):
    mixed = Random(seed)
    return tuple(mixed.choice(plain_steps(6)) for _ in range(many))


class Texts(Case):
    def places(self, read, text, place):
        self.fails((InvalidText, {"place": place}, text), read, text)

    def check_text(self, read, place_of, text):
        """Hold that a text is invalid just where another way to read it says, or else is read."""
        place = place_of(text)
        if place is None:
            return read(text)
        self.places(read, text, place)
        return None


class Groupings(Texts):
    def test_example(self):
        got = [write_grouping(((0, 2), (1,))), read_grouping('1/2 0'), write_row(((0, 1), (2,))), read_row('1+0 2-')]
        self.assertEqual(got, ['0 2 / 1', ((0, 2), (1,)), '0+1 2-', ((0, 1), (2,))])
        self.places(read_grouping, '0 2', 3)

    def test_there_and_back(self):
        for size in SIZES:
            for one in plain_groupings(size):
                text = write_grouping(one)
                self.assertEqual(text, " / ".join(" ".join(map(str, lot)) for lot in one))
                self.assertIs(type(text), str)
                self.assertEqual(read_grouping(text), one)

    def test_any_order_and_loose_spaces(self):
        for size in SIZES:
            for seed, one in enumerate(plain_groupings(size)):
                for turn in range(3):
                    mixed = Random(7 * seed + turn)
                    lots = [mixed.sample(lot, len(lot)) for lot in mixed.sample(one, len(one))]
                    words = [word for lot in lots for word in ["/"] + [str(person) for person in lot]][1:]
                    text = loose(words, seed + turn)
                    self.assertEqual(read_grouping(text), one, text)

    def test_all_orders_of_a_grouping(self):
        for lots in permutations((("2", "0"), ("4",), ("3", "1"))):
            for spread in product(*[permutations(lot) for lot in lots]):
                self.assertEqual(read_grouping("/".join(" ".join(lot) for lot in spread)), ((0, 2), (1, 3), (4,)))

    def test_spaces(self):
        for text in ("0 1/2", "0  1/2", " 0 1/2", "0 1/2 ", "0 1 /2", "0 1/ 2", "   0   1   /   2   ", "2/1 0", " 2/ 1 0 "):
            self.assertEqual(read_grouping(text), ((0, 1), (2,)))
        self.places(read_grouping, "0 1 /2 3 5" + " " * 3000, 3010)
        self.assertEqual(read_grouping(" " * 3000 + "0"), ONLY)
        self.assertEqual(read_grouping("0" + " " * 3000), ONLY)

    def test_ends(self):
        self.assertEqual([write_grouping(ONLY), read_grouping("0")], ["0", ONLY])
        together = (tuple(range(6)),)
        self.assertEqual([write_grouping(together), read_grouping("5 4 3 2 1 0")], ["0 1 2 3 4 5", together])
        alone = tuple((one,) for one in range(6))
        self.assertEqual([write_grouping(alone), read_grouping("5/4/3/2/1/0")], ["0 / 1 / 2 / 3 / 4 / 5", alone])

    def test_places(self):
        for text, place in (
                ("", 0), (" ", 1), ("   ", 3), ("/", 0), (" /", 1), ("0/", 2), ("0 / ", 4), ("0//1", 2), ("0/ /1", 3),
                ("/0", 0), ("0 1 /", 5), ("00", 0), ("01", 0), ("6", 0), ("9", 0), ("10", 0), ("0 10", 2), ("0 6", 2),
                ("0 00", 2), ("0 0", 2), ("0/0", 2), ("0 1 / 1", 6), ("0 1 / 2 0", 8), ("1", 1), ("1 ", 2), ("5", 1),
                ("0 2", 3), ("1/2", 3), ("0 1 2 3 5", 9), ("1 0 3  ", 7), ("0 1 3/", 6), ("0 1 2 3 4 5 6", 12),
                ("0 1 2 3 4 5 0", 12), ("x", 0), ("0x", 1), ("0 x", 2), ("0,1", 1), ("0 2 x", 4), ("0\t1", 1),
                ("0\n", 1), ("0+1", 1), ("0-", 1), ("-0", 0), ("+0", 0), ("0 2 0", 4), ("12x", 0), ("0 1x2", 3),
                ("1 1", 2), ("00 x", 0), ("0 12/", 2), ("0 1 / 2 / 2 x", 10), ("0 / 1 2 6", 8), ("0/x/0", 2),
                ("123456789", 0), ("0 / 1 / ", 8), ("0 / 1 /", 7), ("0 0x", 2), ("x0", 0), ("0 1 10", 4), ("3 3", 2)):
            self.places(read_grouping, text, place)
            self.assertEqual(grouping_place(text), place, text)

    def test_foreign_characters(self):
        for sign in FOREIGN:
            for before, behind in (("", ""), ("", "0"), ("0", ""), ("0 ", " 1"), ("0/", ""), ("0 1 / 2", " 3"), ("  ", " ")):
                self.places(read_grouping, before + sign + behind, len(before))

    def test_all_short_texts(self):
        for many in range(6):
            for signs in product("01 /6x", repeat=many):
                self.check_text(read_grouping, grouping_place, "".join(signs))

    def test_many_texts(self):
        mixed = Random(5)
        fine = 0
        for _ in range(6000):
            words = [mixed.choice(["0", "1", "2", "3", "4", "5", "/", " ", " ", " "]) for _ in range(mixed.randrange(14))]
            if mixed.random() < 0.2:
                words.append(mixed.choice(("6", "x", "10", "\t", "+")))
            fine += self.check_text(read_grouping, grouping_place, "".join(words)) is not None
        self.assertGreater(fine, 50)

    def test_one_character_changed(self):
        mixed = Random(6)
        for one in plain_groupings(5) + plain_groupings(6)[::3]:
            text = write_grouping(one)
            for sign in ("", " ", "/", "0", "7", "x"):
                at = mixed.randrange(len(text) + 1)
                self.check_text(read_grouping, grouping_place, text[:at] + sign + text[at + 1:])
                self.check_text(read_grouping, grouping_place, text[:at] + sign + text[at:])

    def test_great_numbers(self):
        for word in (str(HUGE), "0" * 5000, "9" * 5000):
            self.places(read_grouping, "0 " + word, 2)
            self.places(read_row, "0- " + word, 3)

    def test_bad_arguments(self):
        self.refuses(write_grouping, [ONLY], [no_groupings()])
        self.refuses(read_grouping, ["0"], [no_texts()])
        self.fails((BadGrouping, {}, "0"), write_grouping, "0")
        self.fails((NotText, {}, ONLY), read_grouping, ONLY)


class Rows(Texts):
    def test_there_and_back(self):
        for many in list(range(12)) + [39, 40]:
            for seed in range(20):
                row = some_row(many, 50 * many + seed)
                text = write_row(row)
                words = [f"{step[0]}-" if len(step) == 1 else f"{step[0]}+{step[1]}" for step in row]
                self.assertEqual(text, " ".join(words))
                self.assertIs(type(text), str)
                self.assertEqual(read_row(text), row)

    def test_each_step(self):
        for step in plain_steps(6):
            self.assertEqual(read_row(write_row((step,))), (step,))
        for one, other in permutations(range(6), 2):
            self.assertEqual(read_row(f"{one}+{other}"), ((min(one, other), max(one, other)),))

    def test_loose_spaces_and_any_order(self):
        for seed in range(300):
            mixed = Random(seed)
            row = some_row(mixed.choice((1, 2, 3, 8, 40)), seed)
            words = []
            for step in row:
                names = [str(person) for person in mixed.sample(step, len(step))]
                words += [names[0], "-"] if len(step) == 1 else [names[0], "+", names[1]]
            text = loose(words, seed)
            self.assertEqual(read_row(text), row, text)

    def test_spaces(self):
        for text in ("0 +1 2-", "0+ 1 2-", "0 + 1 2 -", " 0+1 2-", "0+1 2- ", "1+0 2-", "0+1  2-", "   1   +   0   2   -   "):
            self.assertEqual(read_row(text), ((0, 1), (2,)))
        self.assertEqual([read_row("0-1-"), read_row("0- 1-"), read_row("2-0+1")], [((0,), (1,))] * 2 + [((2,), (0, 1))])
        self.assertEqual([read_row("0-0-"), read_row("0+1 1+0")], [((0,), (0,)), ((0, 1), (0, 1))])

    def test_no_steps(self):
        self.assertEqual([write_row(()), read_row(""), read_row(" "), read_row(" " * 500)], ["", (), (), ()])

    def test_places(self):
        for text, place in (
                ("0", 1), ("0 ", 2), ("0+", 2), ("0+ ", 3), ("0+0", 2), ("0+ 0", 3), ("0 + 0 ", 4), ("0+1+2", 3),
                ("0+1-", 3), ("0+ 1 -", 5), ("0--", 2), ("0-+", 2), ("+", 0), ("-", 0), ("-0", 0), (" +0", 1), ("0/1", 1),
                ("00-", 0), ("01-", 0), ("6-", 0), ("10-", 0), ("0+6", 2), ("0+10", 2), ("0+00", 2), ("0+01", 2),
                ("0+12-", 2), ("0+1 6-", 4), ("0+1 2", 5), ("0+1 2 3-", 6), ("0 1", 2), ("0 1+2", 2), ("x", 0), ("0x", 1),
                ("0+x", 2), ("0+1x", 3), ("0- x", 3), ("0,", 1), ("0\t-", 1), ("0-\n", 2), ("0+1/2-", 3), ("12x", 0),
                ("5+5", 2), ("0- 1+1", 5), ("0-1+1", 4), ("0++1", 2), ("0+-1", 2), ("0+ +1", 3), ("9", 0), ("0+9", 2)):
            self.places(read_row, text, place)
            self.assertEqual(row_place(text), place, text)

    def test_foreign_characters(self):
        for sign in FOREIGN + "/":
            for before, behind in (("", ""), ("", "0-"), ("0", "-"), ("0", ""), ("0+", "1"), ("0+1", ""), ("0-", ""),
                                   ("0- ", " 1-"), ("  ", "  ")):
                self.places(read_row, before + sign + behind, len(before))

    def test_forty_steps_and_more(self):
        for step in ("0-", "1+0 ", "0-   ", "2 + 1 "):
            text = step * 40
            self.assertEqual(len(read_row(text)), 40)
            self.assertEqual(read_row(text + "  "), read_row(text))
            for more in ("0-", "0", "1+0", "0-1-", "7", "10", "0+0", "0x", "3" * 50):
                self.places(read_row, text + more, len(text))
                self.places(read_row, text + "  " + more, len(text) + 2)
            for more in ("x", "+", "-", "/", "\t"):
                self.places(read_row, text + more, len(text))
            for at in (0, 1, 20, 39):
                wrong = step * at + "6-" + step * (60 - at)
                self.places(read_row, wrong, len(step) * at)
            self.places(read_row, step * 41 + "x", len(text))
        self.places(read_row, "0- " * 40 + "0-", 120)
        self.places(read_row, "0-" * 5000, 80)

    def test_all_short_texts(self):
        for many in range(6):
            for signs in product("01 +-x", repeat=many):
                self.check_text(read_row, row_place, "".join(signs))

    def test_many_texts(self):
        mixed = Random(8)
        fine = 0
        for _ in range(6000):
            words = [mixed.choice(["0+1", "2-", "3", "4", "+", "-", "5-", "1+0", " ", " ", " "])
                     for _ in range(mixed.choice((2, 4, 6, 60)))]
            if mixed.random() < 0.2:
                words.append(mixed.choice(("6", "x", "10", "\t", "/")))
            fine += self.check_text(read_row, row_place, "".join(words)) is not None
        self.assertGreater(fine, 50)

    def test_one_character_changed(self):
        mixed = Random(9)
        for seed in range(300):
            text = write_row(some_row(mixed.choice((1, 3, 6, 40)), seed))
            for sign in ("", " ", "+", "-", "0", "7", "x"):
                at = mixed.randrange(len(text) + 1)
                self.check_text(read_row, row_place, text[:at] + sign + text[at + 1:])
                self.check_text(read_row, row_place, text[:at] + sign + text[at:])

    def test_rows_of_fewer_people(self):
        self.assertEqual([write_row(((0,),)), write_row(((0, 1), (0,)))], ["0-", "0+1 0-"])

    def test_bad_arguments(self):
        self.refuses(write_row, [()], [bad_rows(6)])
        self.refuses(read_row, [""], [no_texts()])
        for row in ("", "0-", [], [(0,)], None):
            self.fails((BadRow, {"index": None}, row), write_row, row)
        self.fails((NotText, {}, ()), read_row, ())


if __name__ == "__main__":
    unittest.main()
