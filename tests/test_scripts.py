"""Points 59 and 60, and the names of point 59."""

import random
import unittest

from everypoint.scripts import parse_script, script_text
from support import BIG, SpaceTest, kinds_of

# The 35 forms, with the words of point 59 for what stands at their places.
FORMS = """
make NEW empty
make NEW full
make NEW half PLANE SIDE
make NEW box V V
make NEW wedge V V
make NEW tetra V V V V
make NEW hull V V V V
make NEW prism R R R R R R R R
move NEW A shift V
move NEW A scale V
move NEW A mirror AXIS
move NEW A turn AXIS TIMES
join NEW A B
cut NEW A B
take NEW A B
outside NEW A
each NEW A COUNT V
ask at A V
ask hit A V V
ask volume A
ask bounded A
ask empty A
ask convex A
ask pieces A
ask hollows A
ask same A B
ask within A B
ask relation A B
draw A pinhole WIDTH HEIGHT V V V V
draw A straight WIDTH HEIGHT V V V V
paper differ A B V
paper outlying A B V
paper bent A V V V
paper far A V V
paper parted A B PLANE SIDE
""".strip().split("\n")

RATIOS = ["0", "-3/2", "7", "12/35", "-1", "9" * 800, "-" + "9" * 800, "1/" + "7" * 800]
NAMES = ["a", "box", "b2", "make", "x", "abcdefghijkl", "z0123456789a", "empty", "ask"]
RIGHT = {
    "NEW": NAMES, "A": NAMES, "B": NAMES, "R": RATIOS, "SIDE": ["+", "-"], "AXIS": ["x", "y", "z"], "TIMES": ["1", "2", "3"],
    "COUNT": ["1", "2", "3", "4", "5", "6"], "WIDTH": [str(k) for k in range(1, 13)], "HEIGHT": [str(k) for k in range(1, 13)],
}
# Words that are wrong at a place, whatever the other words are.
WRONG_NAMES = ["", "A", "aB", "1a", "_a", "a_", "a-b", "abcdefghijklm", "a.", "+", "1", "0"]
WRONG = {
    "NEW": WRONG_NAMES, "A": WRONG_NAMES, "B": WRONG_NAMES,
    "R": ["", "a", "+1", "-0", "2/4", "3/1", "1/-2", "1/0", "0/2", "01", "1.5", "1/", "/2", "--1", "-", "1/02", "9" * 801, "1/" + "9" * 801, "x"],
    "INTEGER": ["", "a", "+1", "-0", "1/2", "01", "1.0", "--1", "-", "9" * 801, "2/1"],
    "SIDE": ["", "1", "-1", "++", "plus", "+-", "0", "+1"], "AXIS": ["", "X", "w", "0", "xy", "a", "1"], "TIMES": ["", "0", "4", "01", "1/1", "-1", "one", "12"],
    "COUNT": ["", "0", "7", "06", "-1", "1/1", "10", "a"], "WIDTH": ["", "0", "13", "-1", "01", "1/2", "a", "12/1", "012"],
}
WRONG["HEIGHT"] = WRONG["WIDTH"]
PLANES = [("0", "0", "1", "-6"), ("2", "-3", "0", "1"), ("1", "0", "0", "9" * 800), ("0", "1", "0", "0"), ("6", "10", "15", "0")]
NO_PLANES = [("0", "0", "0", "1"), ("0", "0", "0", "0"), ("0", "0", "2", "4"), ("-1", "0", "0", "0"), ("0", "-3", "1", "5"), ("2", "0", "0", "0"), ("0", "0", "-1", "0")]


def slots_of(form):
    """The kinds of the words, one for each place; a plane is four integers."""
    found = []
    for word in form.split(" "):
        found += {"V": ["R"] * 3, "PLANE": ["INTEGER"] * 4}.get(word, [word])
    return found


def words_for(slots, chooser):
    plane = list(chooser.choice(PLANES))
    return [plane.pop(0) if slot == "INTEGER" else chooser.choice(RIGHT.get(slot, [slot])) for slot in slots]


def some_lines(seed):
    chooser = random.Random(seed)
    return [" ".join(words_for(slots_of(form), chooser)) for form in FORMS]


class TestStatements(SpaceTest):

    def assert_fault(self, words, place, line=1):
        text = " ".join(words)
        self.assert_error("TextFault", parse_script, text, line=line, place=place)

    def test_each_form(self):
        self.assertEqual(len(set(FORMS)), 35)
        for seed in range(12):
            for line in some_lines(seed):
                self.assert_same(parse_script(line), [tuple(line.split(" "))])
                self.assert_same(parse_script(text=line), [tuple(line.split(" "))])

    def test_a_wrong_word_at_each_place(self):
        chooser = random.Random(59)
        for form in FORMS:
            slots = slots_of(form)
            for at, slot in enumerate(slots):
                wrong = WRONG.get(slot)
                if wrong is None:
                    wrong = ["", slot.upper(), slot + "x", slot[:-1], "join", "1", "boxes"]
                    wrong = [word for word in wrong if word != slot and not (at == 0 and word == "join")]
                for word in wrong:
                    words = words_for(slots, chooser)
                    words[at] = word
                    self.assert_fault(words, at + 1)
                    # Later words make no difference, whether they are missing or wrong.
                    if words[:at + 1] != [""]:
                        self.assert_fault(words[:at + 1], at + 1)
                    self.assert_fault(words[:at + 1] + ["?"] * (len(words) - at - 1), at + 1)

    def test_words_that_are_missing(self):
        chooser = random.Random(60)
        for form in FORMS:
            words = words_for(slots_of(form), chooser)
            for many in range(1, len(words)):
                self.assert_fault(words[:many], many + 1)

    def test_words_that_are_too_many(self):
        chooser = random.Random(61)
        for form in FORMS:
            words = words_for(slots_of(form), chooser)
            for more in (["x"], [""], ["+"], ["", ""], ["x", "y"]):
                self.assert_fault(words + more, len(words) + 1)
            if "hull" not in words and "prism" not in words:
                self.assert_fault(words + ["1"], len(words) + 1)
                self.assert_fault(words + ["1", "x"], len(words) + 1)

    def test_hulls(self):
        start = ["make", "a", "hull"]
        for many in range(30):
            words = start + [str(k) for k in range(many)]
            if many > 24:
                self.assert_fault(words, 3 + 25)
            elif many < 12 or many % 3 != 0:
                self.assert_fault(words, len(words) + 1)
            else:
                self.assert_same(parse_script(" ".join(words)), [tuple(words)])
                self.assert_fault(words + ["x"], len(words) + 1)
                self.assert_fault(words + ["1", "x"], len(words) + (2 if many < 24 else 1))
                self.assert_fault(words + ["1", "2", "2/2"], len(words) + (3 if many < 24 else 1))
        for place in range(4, 28):
            words = start + ["1"] * 24
            words[place - 1] = "x"
            self.assert_fault(words, place)
        self.assert_fault(start + ["1"] * 24 + ["x"], 28)

    def test_prisms(self):
        start = ["make", "a", "prism", "0", "1"]
        for many in range(22):
            words = start + [str(k) for k in range(many)]
            if many > 16:
                self.assert_fault(words, 5 + 17)
            elif many < 6 or many % 2 != 0:
                self.assert_fault(words, len(words) + 1)
            else:
                self.assert_same(parse_script(" ".join(words)), [tuple(words)])
                self.assert_fault(words + ["1", "-0"], len(words) + (2 if many < 16 else 1))
        self.assert_fault(["make", "a", "prism"], 4)
        self.assert_fault(["make", "a", "prism", "0"], 5)
        self.assert_fault(["make", "a", "prism", "0", "x", "1"], 5)

    def test_planes_that_are_no_planes(self):
        for plane in NO_PLANES:
            for start, behind in ((["make", "a", "half"], ["+"]), (["paper", "parted", "a", "b"], ["-"])):
                words = start + list(plane)
                # As soon as the fourth integer is accepted: before a missing, wrong or further word.
                for more in (behind, [], ["x"], behind + ["x"], [""], ["1"]):
                    self.assert_fault(words + more, len(start) + 1)
                for many in range(4):
                    self.assert_fault(words[:len(start) + many], len(start) + many + 1)
                    wrong = words[:len(start) + many] + ["x"] + words[len(start) + many + 1:] + behind
                    self.assert_fault(wrong, len(start) + many + 1)

    def test_the_examples_of_the_document(self):
        for line, place in (
                ("make a half -1 0 0", 7), ("make a half -1 x 0 0 +", 5), ("make a half 0 0 0 1 +", 4), ("make a empty ", 4), ("make a half -1 0 0 0 +", 4)):
            self.assert_error("TextFault", parse_script, line, line=1, place=place)

    def test_spaces(self):
        for line, place in (
                (" make a empty", 1), ("make  a empty", 2), ("make a  empty", 3), ("make a empty ", 4), ("make a empty  ", 4), (" ", 1), ("  ", 1), ("make ", 2),
                ("ask  volume a", 2), ("ask volume  a", 3), ("ask volume a ", 4), ("join c a b ", 5), (" join c a b", 1)):
            self.assert_error("TextFault", parse_script, line, line=1, place=place)

    def test_words_of_other_forms(self):
        for line, place in (
                ("made a empty", 1), ("Make a empty", 1), ("make a Empty", 3), ("move a b", 4), ("move a b turn x", 6), ("move a b mirror x 1", 6), ("move a b turn x 1 1", 7),
                ("ask", 2), ("ask volumes a", 2), ("ask at a 0 0", 6), ("ask same a", 4), ("ask volume a b", 4), ("draw a", 3), ("draw a camera 1 1", 3), ("draw a pinhole 1", 5),
                ("paper", 2), ("paper far a 0 0 0 0 0", 9), ("paper differ a 1 2 3", 4), ("outside a", 3), ("outside a b c", 4), ("join a b", 4), ("each a b 2 1 1", 7),
                ("each a b x 1 1 1", 4), ("cut a b c d", 5), ("make box box 0 0 0 1 1", 9), ("shift a b 0 0 0", 1), ("tetra", 1), ("= a", 1)):
            self.assert_error("TextFault", parse_script, line, line=1, place=place)
        self.assert_same(parse_script("make box box 0 0 0 1 1 1"), [("make", "box", "box", "0", "0", "0", "1", "1", "1")])
        self.assert_same(parse_script("join join join join"), [("join", "join", "join", "join")])
        self.assert_same(parse_script("ask at at 0 0 0"), [("ask", "at", "at", "0", "0", "0")])
        self.assert_same(parse_script("move a a shift 1 1 1"), [("move", "a", "a", "shift", "1", "1", "1")])


class TestScripts(SpaceTest):

    def test_texts(self):
        self.assert_same(parse_script(""), [])
        self.assert_same(script_text([]), "")
        for seed in range(4):
            lines = some_lines(seed)
            statements = parse_script("\n".join(lines))
            self.assert_same(statements, [tuple(line.split(" ")) for line in lines])
            self.assert_same(script_text(statements), "\n".join(lines))
            self.assert_same(script_text(statements=statements[3:5]), "\n".join(lines[3:5]))

    def test_lines_are_looked_at_in_order(self):
        for text, line, place in (
                ("make a empty\nmake b", 2, 3), ("make a empty\n\nmake b empty", 2, 1), ("make a empty\n", 2, 1), ("\n", 1, 1), ("\nmake a empty", 1, 1),
                ("make a empty\nx\ny", 2, 1), ("make a\nx", 1, 3), ("make a empty\nmake b empty\nmake c empty ", 3, 4), ("make a empty\n make b empty", 2, 1),
                (" \nmake a empty", 1, 1), ("make a half 0 0 0 0 +\nx", 1, 4)):
            self.assert_error("TextFault", parse_script, text, line=line, place=place)

    def test_as_many_lines_as_there_may_be(self):
        lines = [f"make a{k} empty" for k in range(45)]
        self.assertEqual(len(parse_script("\n".join(lines[:40]))), 40)
        for text in ("\n".join(lines[:41]), "\n".join(lines), "\n".join(lines[:40]) + "\n", "\n".join(lines[:40]) + "\nx y z", "\n".join(lines[:40]) + "\n\n\n"):
            self.assert_error("TextFault", parse_script, text, line=41, place=1)
        # A fault in an earlier line comes first.
        self.assert_error("TextFault", parse_script, "\n".join(lines[:39] + ["make b"] + lines[:3]), line=40, place=3)
        self.assert_error("TextFault", parse_script, "\n".join(["x"] + lines), line=1, place=1)

    def test_lists_are_new(self):
        found = parse_script("make a empty\nask empty a")
        expected = kinds_of(found)
        script_text(found)
        self.assertEqual(kinds_of(found), expected)
        found.clear()
        self.assertEqual(kinds_of(parse_script("make a empty\nask empty a")), expected)

    def test_integers_with_many_digits(self):
        line = f"make a half {BIG} 0 1 -{BIG} +"
        self.assert_same(script_text(parse_script(line)), line)


if __name__ == "__main__":
    unittest.main()
