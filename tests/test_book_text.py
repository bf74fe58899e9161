"""Texts of books: which stand, and the number that BadBook keeps of the others."""

from cornerdrifts.books import REGIONS, Book
from cornerdrifts.errors import BadBook
from tests.samples import QUEUE_LINES, QUEUE_TEXT, Case, any_values, full_region, queue, random_books

BEHIND = len(QUEUE_LINES) + 1

# Lines that no book has anywhere.
NO_FORM = [
    "", " ", "Book", "book ", " book", "books", "bench", "Inside", " inside", "inside ", "insides", "outside",
    "first second", "step", "step ", "step 0", "step 0 0", "step 0 0 ", "step 0 0 1 ", " step 0 0 1", "step  0 0 1",
    "step 0  0 1", "step 0 0  1", "step 0 0 1 1", "Step 0 0 1", "steps 0 0 1", "0 0 1", "step\t0 0 1", "step,0,0,1",
    "step 0 0 1;", "turn", "step a 0 1", "step 0 b 1", "step 0 0 c",
]
# Numbers that are not written as Python writes them, or that are no integers.
NO_INTEGER = ["+1", "01", "-0", "00", "1.0", "1/1", "--1", "-", "1_0", "", "0x1", "1e0", "True", "None", "- 1", "(1)"]
# Words that are no chance.
NO_CHANCE = [
    "0", "-1", "-1/2", "0/1", "0/2", "1/0", "0/0", "1/1", "2/1", "2/2", "2/4", "6/4", "3/3", "1/-2", "-1/-2", "+1/2",
    "1/+2", "01/2", "1/02", "1/", "/2", "/", "1//2", "1/2/3", "1/2/", "1 /2", "1/ 2", "0.5", ".5", "5e-1", "half",
    "1_0/11", "-0", "00", "+1", "01", "-", "--1/2", "1/2 ", "(1, 2)", "1:2",
]


def replaced(number, line):
    """The lines of the queue, one of them another one."""
    return QUEUE_LINES[:number - 1] + [line] + QUEUE_LINES[number:]


def put_in(number, *lines):
    """The lines of the queue, with others that begin at this number."""
    return QUEUE_LINES[:number - 1] + list(lines) + QUEUE_LINES[number - 1:]


class TextCase(Case):
    def bad(self, lines, number):
        text = lines if isinstance(lines, str) else "\n".join(lines)
        with self.subTest(text=text):
            self.refuses(BadBook, number, Book, text)

    def stands(self, lines):
        text = "\n".join(lines)
        self.assertEqual(Book(text).text, text)
        return Book(text)


class Standing(TextCase):
    def test_properties(self):
        book = Book(QUEUE_TEXT)
        self.same(book.text, QUEUE_TEXT)
        self.same(book.inside, ((1, 0, (1, 4)), (-1, 1, (1, 2)), (0, -1, (1, 4))))
        self.same(book.first, ((1, 0, (1, 2)), (-1, 1, (1, 2))))
        self.same(book.second, ((1, 0, (1, 3)), (0, -1, (2, 3))))
        self.same(book.none, ((1, 0, (1, 2)), (0, 0, (1, 2))))
        self.same(len(book), 9)

    def test_by_name(self):
        self.assertEqual(Book(text=QUEUE_TEXT), Book(QUEUE_TEXT))

    def test_steps_stand_in_the_sequence_of_the_text(self):
        lines = replaced(3, "step -1 1 1/2")
        lines[3] = "step 1 0 1/4"
        self.same(self.stands(lines).inside, ((-1, 1, (1, 2)), (1, 0, (1, 4)), (0, -1, (1, 4))))

    def test_a_chance_of_one_is_a_fraction(self):
        lines = ["book", "inside", "step 0 0 1", "first", "step 0 0 1", "second", "step 0 0 1", "none", "step 3 3 1"]
        book = self.stands(lines)
        self.same((book.inside, book.none, len(book)), (((0, 0, (1, 1)),), ((3, 3, (1, 1)),), 4))

    def test_all_steps_that_regions_may_have(self):
        for region, low_i, low_j in (("inside", -1, -1), ("first", -1, 0), ("second", 0, -1), ("none", 0, 0)):
            for i in range(-2, 5):
                for j in range(-2, 5):
                    lines = []
                    for name in REGIONS:
                        lines += [name, f"step {i} {j} 1" if name == region else "step 0 0 1"]
                    number = lines.index(region) + 3
                    if low_i <= i <= 3 and low_j <= j <= 3:
                        self.assertEqual(getattr(self.stands(["book"] + lines), region), ((i, j, (1, 1)),))
                    else:
                        self.bad(["book"] + lines, number)

    def test_regions_may_have_the_same_steps(self):
        lines = ["book"]
        for region in REGIONS:
            lines += [region, "step 1 0 1/2", "step 0 1 1/2"]
        self.assertEqual(len(self.stands(lines)), 8)

    def test_long_chances(self):
        big = 10 ** 999 + 7
        lines = replaced(13, f"step 1 0 1/{big}")
        lines[13] = f"step 0 0 {big - 1}/{big}"
        self.same(self.stands(lines).none, ((1, 0, (1, big)), (0, 0, (big - 1, big))))

    def test_random_texts(self):
        for book in random_books(1, 60):
            self.assertEqual(Book(book.text), book)
            self.assertEqual(len(book), book.text.count("step"))


class NoString(TextCase):
    def test_no_string(self):
        values = [value for value in any_values() if not isinstance(value, str)]
        for value in values + [0, 1, QUEUE_LINES, tuple(QUEUE_LINES), (QUEUE_TEXT,), [QUEUE_TEXT], queue()]:
            with self.subTest(value=value):
                self.refuses(BadBook, 0, Book, value)

    def test_other_strings(self):
        for value in any_values():
            if isinstance(value, str):
                self.bad(value, 2 if value == "book" else 1)


class NoForm(TextCase):
    def test_first_line(self):
        for line in NO_FORM + list(REGIONS) + ["step 0 0 1", "step 1 0 1/4"]:
            self.bad(replaced(1, line), 1)
            self.bad(put_in(1, line), 1)
            self.bad(line, 1)

    def test_in_the_middle(self):
        for line in NO_FORM + ["book"]:
            for number in range(2, len(QUEUE_LINES) + 1):
                self.bad(put_in(number, line), number)
                self.bad(replaced(number, line), number)

    def test_behind_the_last_line(self):
        for line in NO_FORM + ["book"]:
            self.bad(QUEUE_LINES + [line], BEHIND)

    def test_no_integers(self):
        for word in NO_INTEGER:
            for number in (3, 7, 13):
                self.bad(replaced(number, f"step {word} 0 1/4"), number)
                self.bad(replaced(number, f"step 0 {word} 1/4"), number)
            self.bad(QUEUE_LINES + [f"step {word} 0 1/4"], BEHIND)

    def test_no_chances(self):
        for word in NO_CHANCE:
            for number in (3, 4, 5, 7, 11, 13):
                step = " ".join(QUEUE_LINES[number - 1].split(" ")[:3])
                self.bad(replaced(number, f"{step} {word}"), number)
            self.bad(QUEUE_LINES + [f"step 2 2 {word}"], BEHIND)

    def test_out_of_bounds(self):
        for i, j in ((4, 0), (0, 4), (-2, 0), (0, -2), (10, 0), (0, 99), (-10, 0), (10 ** 11, 0), (0, -10 ** 11)):
            for number in (3, 5, 7, 11, 13):
                self.bad(replaced(number, f"step {i} {j} 1/4"), number)
            self.bad(QUEUE_LINES + [f"step {i} {j} 1/4"], BEHIND)
        self.bad(replaced(7, "step 0 -1 1/2"), 7)
        self.bad(replaced(8, "step -1 -1 1/2"), 8)
        self.bad(replaced(10, "step -1 0 1/3"), 10)
        self.bad(replaced(11, "step -1 -1 2/3"), 11)
        for step in ("-1 0", "0 -1", "-1 -1", "-1 1", "1 -1"):
            self.bad(replaced(13, f"step {step} 1/2"), 13)
            self.bad(QUEUE_LINES + [f"step {step} 1/2"], BEHIND)

    def test_no_signs(self):
        self.bad("", 1)
        self.bad("\n", 1)

    def test_line_feeds(self):
        self.bad(QUEUE_TEXT + "\n", BEHIND)
        self.bad(QUEUE_TEXT + "\n\n", BEHIND)
        self.bad("\n" + QUEUE_TEXT, 1)
        self.bad("book\n", 2)
        self.bad("book\n\n" + "\n".join(QUEUE_LINES[1:]), 2)
        self.bad(QUEUE_TEXT.replace("first\n", "first\n\n"), 7)
        self.bad(QUEUE_TEXT.replace("\n", "\r\n"), 1)
        self.bad(" ".join(QUEUE_LINES), 1)

    def test_other_signs_than_ascii(self):
        for word in ("\u00b2", "\u0661", "\uff11"):
            self.bad(replaced(3, f"step {word} 0 1/4"), 3)
            self.bad(replaced(3, f"step 1 0 {word}"), 3)
            self.bad(replaced(3, f"step 1 0 1/{word}"), 3)


class Sequence(TextCase):
    def test_regions_out_of_sequence(self):
        for place, number in enumerate((2, 6, 9, 12)):
            for region in REGIONS:
                if region != REGIONS[place]:
                    self.bad(replaced(number, region), number)
        for region in REGIONS:
            self.bad(QUEUE_LINES + [region], BEHIND)

    def test_regions_that_stand_twice(self):
        for region in REGIONS:
            number = QUEUE_LINES.index(region) + 1
            self.bad(put_in(number, region), number + 1)

    def test_regions_left_out(self):
        for region, number in (("inside", 2), ("first", 6), ("second", 9)):
            at = QUEUE_LINES.index(region)
            many = 4 if region == "inside" else 3
            self.bad(QUEUE_LINES[:at] + QUEUE_LINES[at + many:], number)

    def test_a_step_ahead_of_inside(self):
        self.bad(put_in(2, "step 1 0 1/4"), 2)
        self.bad(["book", "step 1 0 1"], 2)
        self.bad(["book", "step 0 0 1"] + QUEUE_LINES, 2)

    def test_steps_that_stand_twice(self):
        for number in (3, 4, 5, 7, 8, 10, 11, 13, 14):
            line = QUEUE_LINES[number - 1]
            self.bad(put_in(number + 1, line), number + 1)
        self.bad(put_in(6, "step 1 0 1/4"), 6)
        self.bad(put_in(6, "step 1 0 1/7"), 6)
        self.bad(QUEUE_LINES + ["step 1 0 1/2"], BEHIND)
        self.bad(QUEUE_LINES + ["step 0 0 3/4"], BEHIND)


class TooMany(TextCase):
    def text_with(self, region, lines):
        """A book of which this region has these lines, and the number of the last of them."""
        whole = ["book"]
        for name in REGIONS:
            whole += lines if name == region else [name, "step 0 0 1"]
            if name == region:
                last = len(whole)
        return whole, last

    def test_twelve_steps_stand(self):
        for region in REGIONS:
            lines, _ = self.text_with(region, full_region(region, 12))
            book = self.stands(lines)
            self.assertEqual((len(getattr(book, region)), len(book)), (12, 15))

    def test_all_regions_with_twelve(self):
        lines = ["book"]
        for region in REGIONS:
            lines += full_region(region, 12)
        self.assertEqual(len(self.stands(lines)), 48)

    def test_a_thirteenth_step(self):
        for region in REGIONS:
            lines, last = self.text_with(region, full_region(region, 13))
            self.bad(lines, last)
            lines, last = self.text_with(region, full_region(region, 14))
            self.bad(lines, last - 1)
            # Whatever its chance, and whatever the chances add up to.
            lines, last = self.text_with(region, full_region(region, 12) + ["step 3 3 1/12"])
            self.bad(lines, last)


class Lacking(TextCase):
    def test_chances_below_one(self):
        for number, behind in ((3, 6), (4, 6), (5, 6), (7, 9), (8, 9), (10, 12), (11, 12), (13, 15), (14, 15)):
            step = " ".join(QUEUE_LINES[number - 1].split(" ")[:3])
            self.bad(replaced(number, step + " 1/9"), behind)
            self.bad(replaced(number, step + " 1/999999999999"), behind)

    def test_chances_above_one(self):
        for number, behind in ((3, 6), (4, 6), (5, 6), (7, 9), (8, 9), (10, 12), (11, 12), (13, 15), (14, 15)):
            step = " ".join(QUEUE_LINES[number - 1].split(" ")[:3])
            for chance in ("1", "3/2", "7", "999999999998/7", "8/9"):
                self.bad(replaced(number, f"{step} {chance}"), behind)

    def test_chances_that_are_off_by_little(self):
        self.bad(replaced(3, "step 1 0 249999999997/999999999989"), 6)
        self.bad(replaced(3, "step 1 0 249999999998/999999999989"), 6)

    def test_a_region_without_steps(self):
        self.bad(["book", "inside", "first", "second", "none"], 3)
        self.bad(QUEUE_LINES[:2] + QUEUE_LINES[5:], 3)
        self.bad(QUEUE_LINES[:6] + QUEUE_LINES[8:], 7)
        self.bad(QUEUE_LINES[:9] + QUEUE_LINES[11:], 10)
        self.bad(QUEUE_LINES[:12], 13)

    def test_a_region_that_lacks(self):
        self.bad("book", 2)
        self.bad(QUEUE_LINES[:5], 6)
        self.bad(QUEUE_LINES[:8], 9)
        self.bad(QUEUE_LINES[:11], 12)

    def test_a_text_that_ends_within_a_region(self):
        self.bad(QUEUE_LINES[:2], 3)
        self.bad(QUEUE_LINES[:3], 4)
        self.bad(QUEUE_LINES[:4], 5)
        self.bad(QUEUE_LINES[:6], 7)
        self.bad(QUEUE_LINES[:7], 8)
        self.bad(QUEUE_LINES[:9], 10)
        self.bad(QUEUE_LINES[:10], 11)

    def test_the_first_region_counts(self):
        self.bad(["book", "inside", "step 1 0 1/2", "first"], 4)
        self.bad(["book", "inside", "step 1 0 1", "first", "second", "step 1 0 1/2"], 5)
        self.bad(["book", "inside", "step 1 0 3/2", "step 0 0 1", "first", "step 0 0 1/2", "second"], 5)
        self.bad(["book", "inside", "step 1 0 1", "first", "step 0 0 1", "second", "step 0 0 2", "none"], 8)

    def test_lines_that_cannot_stand_come_first(self):
        # Inside has 1/2 only, but a later line has no form.
        for number in (4, 5, 8, 11, 13):
            lines = replaced(3, "step 1 0 1/9")
            lines[number - 1] = "step 0 0"
            self.bad(lines, number)
        self.bad(["book", "inside", "step 1 0 1/2", "first", ""], 5)
        self.bad(["book", "inside", "first", "step 1 -1 1"], 4)
        self.bad(replaced(3, "step 1 0 1/9") + ["none"], BEHIND)

    def test_the_first_of_several_lines_counts(self):
        lines = replaced(4, "step 9 9 9")
        lines[7] = "first"
        self.bad(lines, 4)
        self.bad(["Book", "insides"], 1)
        self.bad(put_in(3, "second", "first"), 3)


class Equality(TextCase):
    def test_equal_texts(self):
        self.assertTrue(Book(QUEUE_TEXT) == queue())
        self.assertFalse(Book(QUEUE_TEXT) != queue())
        self.assertIs(Book(QUEUE_TEXT) == queue(), True)

    def test_other_texts(self):
        other = Book(QUEUE_TEXT.replace("step 1 0 1/3\nstep 0 -1 2/3", "step 1 0 2/3\nstep 0 -1 1/3"))
        self.assertFalse(other == queue())
        self.assertTrue(other != queue())
        # The same steps in another sequence are another book.
        other = Book(QUEUE_TEXT.replace("step 1 0 1/3\nstep 0 -1 2/3", "step 0 -1 2/3\nstep 1 0 1/3"))
        self.assertFalse(other == queue())

    def test_nothing_else(self):
        for value in any_values() + [QUEUE_TEXT, 9, (QUEUE_TEXT,), QUEUE_LINES]:
            if not isinstance(value, Book):
                self.assertFalse(queue() == value)
                self.assertTrue(queue() != value)
                self.assertFalse(value == queue())
