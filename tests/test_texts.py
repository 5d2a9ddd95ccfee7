import re
import unittest
from random import Random

import samples
from levelkind.errors import BadText, BadValue
from levelkind.texts import parse, printed
from samples import A, B, BOUND, as_lists, as_mixed, grid, is_plain

WORKED = """size 1 1 1
number 0 0 0 8
number 0 0 8 0
number 0 8 0 0
number 0 8 8 0
number 8 0 0 0
number 8 0 8 0
number 8 8 0 0
number 8 8 8 8
"""


def first_wrong(text):
    """The number that BadText holds for a text, or None for a grid's text: told line by line."""
    lines = text.split("\n")
    if not lines[-1]:
        lines.pop()
    size, halved, places = None, [], None
    for at, line in enumerate(lines):
        if size is None:
            if not re.fullmatch("size [12] [12] [12]", line):
                return at
            size = tuple(int(word) for word in line.split()[1:])
        elif places is None and line in next_halves(size, halved):
            halved.append(tuple(int(word) for word in line.split()[1:]))
        else:
            if places is None:
                places = samples.corners(size, halved)
            expected = re.escape("number {} {} {} ".format(*places.pop(0))) if places else "(?!)"
            found = re.fullmatch(expected + "(0|-?[1-9][0-9]*)", line)
            if not found or len(found[1]) > 8 or abs(int(found[1])) > BOUND:
                return at
    return None if places == [] else len(lines)


def next_halves(size, halved):
    """All lines of halved cells that can stand behind those of these."""
    if len(halved) == 6:
        return []
    roots = [cell for cell in halved if cell[3] == 8]
    seconds = [cell for cell in halved if cell[3] == 4]
    found = [cell for root in roots for cell in samples.halves(root) if not seconds or cell > seconds[-1]]
    if not seconds:
        found += [cell for cell in samples.roots(size) if not roots or cell > roots[-1]]
    return ["halve {} {} {} {}".format(*cell) for cell in found]


def taken(text):
    """The number that BadText holds for a text, or None if it is taken."""
    try:
        parse(text)
    except BadText as error:
        return error.at
    return None


class Printed(unittest.TestCase):

    def test_of_the_worked_example(self):
        self.assertEqual(printed(samples.worked()), WORKED)

    def test_halved_cells_and_numbers_below_nought(self):
        value = grid(*samples.TWICE, lambda place: place[2] - place[0] - 4)
        lines = printed(value).split("\n")
        self.assertEqual(lines[:5], ["size 2 1 1", "halve 0 0 0 8", "halve 4 0 0 4", "number 0 0 0 -4", "number 0 0 4 0"])
        self.assertEqual(lines[-2:], ["number 16 8 8 -12", ""])
        self.assertEqual(len(lines), 3 + len(value[2]) + 1)

    def test_numbers_at_the_bounds(self):
        self.assertTrue(printed(samples.flat(BOUND)).endswith("number 8 8 8 1000000\n"))
        self.assertTrue(printed(samples.flat(-BOUND)).endswith("number 8 8 8 -1000000\n"))

    def test_lists(self):
        for value in samples.grids()[::4]:
            for given in (as_lists(value), as_mixed(value), as_mixed(value, 1)):
                self.assertEqual(printed(given), printed(value))

    def test_wrong_grids(self):
        for wrong in (None, True, 0, "", WORKED, (), [], ((1, 1, 1), (), ()), samples.worked()[:2]):
            with self.assertRaises(BadValue) as caught:
                printed(wrong)
            self.assertEqual(caught.exception.at, 0)
        for wrong in samples.spoiled(samples.worked())[::5]:
            with self.assertRaises(BadValue) as caught:
                printed(wrong)
            self.assertEqual(caught.exception.at, 0)


class Parse(unittest.TestCase):

    def test_of_the_worked_example(self):
        self.assertEqual(parse(WORKED), samples.worked())

    def test_there_and_back(self):
        for value in samples.grids():
            text = printed(value)
            self.assertEqual(parse(text), value)
            self.assertTrue(is_plain(parse(text)))
            self.assertEqual(printed(parse(text)), text)

    def test_all_sizes_and_many_halved_cells(self):
        for size in ((a, b, c) for a in (1, 2) for b in (1, 2) for c in (1, 2)):
            for halved in ((), (A,), (A, (4, 4, 4, 4)), (A,) + tuple(samples.halves(A)[3:])):
                value = grid(size, halved, samples.dull)
                self.assertEqual(parse(printed(value)), value)

    def test_the_last_line_feed_may_lack(self):
        for value in samples.small_grids():
            text = printed(value)
            self.assertEqual(parse(text[:-1]), value)
            self.assertEqual(printed(parse(text[:-1])), text)

    def test_by_name(self):
        self.assertEqual(parse(text=printed(grid=samples.worked())), samples.worked())

    def test_what_is_no_string(self):
        for wrong in (None, True, False, 0, 1, 10 ** 30, (), [], [WORKED], tuple(WORKED.split("\n")), samples.worked()):
            self.assertEqual(taken(wrong), 0)


class BadTexts(unittest.TestCase):

    def texts(self):
        return [WORKED, printed(grid(*samples.LONG, samples.noise(61, BOUND))),
                printed(grid((2, 1, 1), (A, B, (0, 0, 0, 4), (8, 4, 4, 4)), samples.dull)),
                printed(grid(*samples.MIXED, samples.noise(62, 40)))]

    def check(self, lines, at):
        """The number is told with and without a line feed at the end."""
        self.assertEqual(taken("\n".join(lines) + "\n"), at)
        if lines and lines[-1]:
            self.assertEqual(taken("\n".join(lines)), at)

    def test_the_empty_text_ends_too_early(self):
        self.assertEqual(taken(""), 0)

    def test_empty_lines(self):
        self.assertEqual(taken("\n"), 0)
        self.assertEqual(taken("\n\n\n"), 0)
        self.assertEqual(taken("\n" + WORKED), 0)
        self.assertEqual(taken(WORKED + "\n"), 9)
        self.assertEqual(taken(WORKED + "\n\n"), 9)
        for text in self.texts():
            lines = text[:-1].split("\n")
            for at in range(len(lines) + 1):
                self.check(lines[:at] + [""] + lines[at:], at)

    def test_texts_that_end_too_early(self):
        for text in self.texts():
            lines = text[:-1].split("\n")
            for at in range(len(lines)):
                self.check(lines[:at], at)

    def test_a_line_too_many(self):
        for text in self.texts():
            lines = text[:-1].split("\n")
            for more in (lines[-1], "number 16 16 16 0", "number 24 24 24 0", "halve 0 0 0 8", "size 1 1 1", " ", "x"):
                self.check(lines + [more], len(lines))
                self.check(lines + [more, more], len(lines))

    def test_each_line_spoilt(self):
        for text in self.texts():
            lines = text[:-1].split("\n")
            for at, line in enumerate(lines):
                if at > 9 and at % 7 and at < len(lines) - 1:
                    continue
                words = line.split(" ")
                spoilt = [line + " ", " " + line, line.replace(" ", "  ", 1), line + " 0", line + " x", words[0],
                          " ".join(words[:-1]), " ".join(words[1:]), line.upper(), line.capitalize(), line + "\t",
                          line.replace(" ", "\t"), line + "\r", line[:-1] + ".", line + ".0", line + "#", "x" + line,
                          line.replace(words[0], words[0] + "s"), line[:-1] + "_0", line + "_0", words[0] + " ",
                          "number", "halve", "size", "halve ", "number ", "size 1 1", "-", "0"]
                for k in range(1, len(words)):
                    for word in ("0" + words[k], "+" + words[k], "--" + words[k], words[k] + "0", "-0", "00", "", "-",
                                 "1e0", "0x1", "one", "1.0", words[k] + "-", "- 1", "1_0", "(1)", "3", "9" * 5000,
                                 "1000001", "-1000001", "10000000", "-10000000", "9" * 30):
                        spoilt.append(" ".join(words[:k] + [word] + words[k + 1:]))
                for other in spoilt:
                    changed = lines[:at] + [other] + lines[at + 1:]
                    expected = first_wrong("\n".join(changed))
                    if expected is not None:
                        self.assertEqual(taken("\n".join(changed)), expected)
                        self.assertEqual(taken("\n".join(changed) + "\n"), expected)

    def test_where_each_is_told(self):
        lines = WORKED[:-1].split("\n")
        for other in ("number 0 0 8 00", "number 0 0 8 -0", "number 0 0 8 +1", "number 0 0  8 1", "number 0 0 8 1 ",
                      " number 0 0 8 1", "number 0 0 8", "number 0 0 8 1 1", "number 0 0 08 1", "number 0 0 8 1000001",
                      "number 0 0 8 -1000001", "number 0 0 9 1", "numbers 0 0 8 1", "Number 0 0 8 1", "number 0 0 8 ",
                      "number 0 0 8 1.0", "number 0 0 8 1_0", "number 0 0 8 x", "number 0 0 8 --1", "number 0 0 8 -",
                      "number 0 0 8 - 1", "halve 0 0 0 8", "size 1 1 1", "halve 0 0 0 4", ""):
            self.check(lines[:2] + [other] + lines[3:], 2)
        for other in ("number 0 0 8 1000000", "number 0 0 8 -1000000", "number 0 0 8 -1", "number 0 0 8 10"):
            self.check(lines[:2] + [other] + lines[3:], None)
        for other in ("size 1 1 0", "size 1 1 3", "size 1 1", "size 1 1 1 1", "size 01 1 1", "size -1 1 1", "size  1 1 1",
                      "size 1 1 +1", "sizes 1 1 1", "Size 1 1 1", "size 1,1,1", "size 1 1 True", "size 1 1 1 ", "1 1 1"):
            self.check([other] + lines[1:], 0)
        # Another size is found out by the numbers.
        self.check(["size 1 1 2"] + lines[1:], 3)
        self.check(["size 2 1 1"] + lines[1:], 9)

    def test_halved_cells(self):
        value = grid((2, 1, 1), (A, B, (0, 0, 0, 4), (8, 4, 4, 4)), samples.dull)
        lines = printed(value)[:-1].split("\n")
        self.assertEqual(lines[1:5], ["halve 0 0 0 8", "halve 8 0 0 8", "halve 0 0 0 4", "halve 8 4 4 4"])
        for at, other in ((1, "halve 0 0 0 4"), (1, "halve 0 0 0 16"), (1, "halve 16 0 0 8"), (1, "halve 4 0 0 8"),
                          (1, "halve 0 0 0 08"), (1, "halve 0 0 8 8"), (2, "halve 0 0 0 8"), (2, "halve 8 0 0 4"),
                          (3, "halve 0 0 0 2"), (3, "halve 2 0 0 4"), (3, "halve 8 0 0 8"), (3, "halve 16 0 0 4"),
                          (4, "halve 0 0 0 4"), (4, "halve 0 0 0 8"), (4, "halve 8 8 4 4"), (4, "halve 8 4 4"),
                          (4, "halve 8 4 4 4 4"), (4, "halve"), (4, "halved 8 4 4 4"), (4, "halve -8 4 4 4")):
            self.check(lines[:at] + [other] + lines[at + 1:], at)

    def test_a_halved_cell_that_can_stand_there_is_found_out_by_the_numbers(self):
        lines = printed(grid((2, 1, 1), (A, (0, 0, 0, 4)), samples.dull))[:-1].split("\n")
        # Without its halves the cell has no corner at (0, 0, 2).
        self.assertEqual(lines[4][:13], "number 0 0 2 ")
        self.check(lines[:2] + lines[3:], 3)
        self.check(lines[:1] + lines[2:], 1)
        self.check(lines[:3] + ["halve 0 4 0 4"] + lines[3:], first_wrong("\n".join(lines[:3] + ["halve 0 4 0 4"] + lines[3:])))

    def test_seven_halved_cells(self):
        lines = printed(grid(*samples.SIX_ROOTS, samples.dull))[:-1].split("\n")
        self.check(lines, None)
        self.check(lines[:7] + ["halve 8 8 0 8"] + lines[7:], 7)
        self.check(lines[:7] + ["halve 0 0 0 4"] + lines[7:], 7)
        self.check(lines[:7] + ["halve 0 0 0 4"], 7)
        self.check(lines[:7], 7)

    def test_lines_exchanged_left_out_and_put_in_twice(self):
        for text in self.texts():
            lines = text[:-1].split("\n")
            for at in range(len(lines)):
                for changed in (lines[:at] + lines[at + 1:], lines[:at] + lines[at:at + 1] + lines[at:],
                                lines[:at] + lines[at:at + 2][::-1] + lines[at + 2:], lines[at:] + lines[:at],
                                lines[:at] + lines[:1] + lines[at:], lines[:at] + lines[-1:] + lines[at:]):
                    expected = first_wrong("\n".join(changed))
                    self.check(changed, expected)
                    self.assertEqual(expected is None, changed == lines)

    def test_texts_changed_anywhere(self):
        source = Random(63)
        wrong = 0
        for text in self.texts():
            for _ in range(300):
                at = source.randrange(len(text))
                more = source.choice(["", "\n", " ", "0", "1", "4", "8", "-", "+", "x", "halve 0 0 0 4\n", "\n\n", "size"])
                changed = text[:at] + more + text[at + source.randint(0, 2):]
                expected = first_wrong(changed)
                self.assertEqual(taken(changed), expected)
                if expected is None:
                    self.assertEqual(printed(parse(changed)), changed if changed[-1] == "\n" else changed + "\n")
                else:
                    wrong += 1
        self.assertGreater(wrong, 600)

    def test_texts_cut_off_anywhere(self):
        text = printed(grid((1, 1, 1), (A,), samples.dull))
        for at in range(len(text)):
            self.assertEqual(taken(text[:at]), first_wrong(text[:at]))

    def test_long_texts(self):
        for text in ("a" * 20000, "\n" * 20000, " " * 20000, "size 1 1 " + "1" * 19000, "size 1 1 1\n" * 1800):
            self.assertEqual(taken(text), first_wrong(text))
        text = WORKED[:-2] + "9" * 19000
        self.assertEqual(taken(text), 8)
        self.assertEqual(taken(WORKED[:-2] + "-" + "0" * 19000 + "\n"), 8)

    def test_other_digits_and_line_ends(self):
        for other in ("\u0661", "\u00b2", "\uff11"):
            self.assertEqual(taken(WORKED.replace("size 1", "size " + other)), 0)
            self.assertEqual(taken(WORKED[:-2] + other), 8)
        self.assertEqual(taken(WORKED.replace("\n", "\r\n")), 0)
        self.assertEqual(taken(WORKED.replace("\n", "\r")), 0)
        self.assertEqual(taken(WORKED.replace("\n", "\x0b", 1)), 0)


if __name__ == "__main__":
    unittest.main()
