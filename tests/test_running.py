"""Points 61 to 63."""

import inspect
import unittest

from everypoint import running
from everypoint.expressions import size
from everypoint.keeping import kept_tree, same_solid
from everypoint.moves import mirror_axis, quarter_turn, scale_by, shift_by
from everypoint.pictures import picture, picture_text
from everypoint.running import Run, run_script
from everypoint.shapes import box, copies, hull, prism, tetrahedron, wedge
from samples import CHECKERED
from support import SpaceTest, kinds_of, point

BOX = box(point(0, 0, 0), point(1, 2, 3))
HALF = ("half", (0, 0, 1, -6), -1)
START = ["make a box 0 0 0 1 2 3", "make b half 0 0 1 -6 -", "make e empty", "make f full", "make r box 0 0 0 3 3 1", "make h box 1 1 -1 2 2 2",
         "take ring r h", "outside o a"]
KNOWN = {"a": BOX, "b": HALF, "e": ("empty",), "f": ("full",), "r": box(point(0, 0, 0), point(3, 3, 1)), "h": box(point(1, 1, -1), point(2, 2, 2))}
KNOWN["ring"] = ("take", KNOWN["r"], KNOWN["h"])
KNOWN["o"] = ("outside", BOX)
ALL = sorted(KNOWN)


def started(*lines):
    run = Run()
    for line in START + list(lines):
        run.step(line)
    return run


def state_of(run):
    return kinds_of([(name, run.expression_of(name), run.tree_of(name)) for name in run.names])


class TestMaking(SpaceTest):

    def assert_made(self, line, expression):
        run = started()
        self.assertIsNone(run.step(line))
        name = line.split(" ")[1]
        self.assert_same(run.expression_of(name), expression)
        self.assert_same(run.tree_of(name), kept_tree(expression))
        self.assert_same(run.names, sorted(ALL + [name]))

    def test_shapes(self):
        for line, expression in (
                ("make n empty", ("empty",)), ("make n full", ("full",)), ("make n half 0 0 1 -6 -", HALF), ("make n half 2 -3 0 1 +", ("half", (2, -3, 0, 1), 1)),
                ("make n box 0 0 0 1 2 3", BOX), ("make n box -1/2 0 0 1 2/3 3", box(point((-1, 2), 0, 0), point(1, (2, 3), 3))),
                ("make n wedge 0 0 0 1 2 3", wedge(point(0, 0, 0), point(1, 2, 3))),
                ("make n tetra 0 0 0 2 0 0 0 3 0 0 0 4", tetrahedron(point(0, 0, 0), point(2, 0, 0), point(0, 3, 0), point(0, 0, 4))),
                ("make n hull 0 0 0 1 0 0 0 1 0 0 0 1", hull([point(0, 0, 0), point(1, 0, 0), point(0, 1, 0), point(0, 0, 1)])),
                ("make n hull 0 0 0 1 0 0 0 1 0 0 0 1 1 1 1 1/3 1/3 1/3", hull(
                    [point(0, 0, 0), point(1, 0, 0), point(0, 1, 0), point(0, 0, 1), point(1, 1, 1), point((1, 3), (1, 3), (1, 3))])),
                # The first two are low and high.
                ("make n prism -1 5 0 0 4 0 0 3", prism([(0, 0), (4, 0), (0, 3)], -1, 5)),
                ("make n prism 1/2 2 0 0 2 0 2 2 0 2", prism([(0, 0), (2, 0), (2, 2), (0, 2)], (1, 2), 2))):
            self.assert_made(line, expression)

    def test_moves(self):
        for line, move in (
                ("move n a shift 1 -2 1/3", shift_by(point(1, -2, (1, 3)))), ("move n a scale 2 -1 1/3", scale_by(point(2, -1, (1, 3)))),
                ("move n a mirror x", mirror_axis(0)), ("move n a mirror y", mirror_axis(1)), ("move n a mirror z", mirror_axis(2)),
                ("move n a turn x 1", quarter_turn(0)), ("move n a turn y 1", quarter_turn(1)), ("move n a turn z 1", quarter_turn(2)),
                # One move node also for several turns.
                ("move n a turn x 2", quarter_turn(0, 2)), ("move n a turn y 3", quarter_turn(1, 3)), ("move n a turn z 2", quarter_turn(2, 2))):
            self.assert_made(line, ("move", move, BOX))

    def test_where_the_turns_lead(self):
        run = started("move x a turn x 1", "move y a turn y 1", "move z a turn z 1", "move m a mirror x", "move t a turn z 3")
        for name, low, high in (
                ("x", (0, -3, 0), (1, 0, 2)), ("y", (0, 0, -1), (3, 2, 0)), ("z", (-2, 0, 0), (0, 1, 3)), ("m", (-1, 0, 0), (0, 2, 3)),
                ("t", (0, -1, 0), (2, 0, 3))):
            self.assertIs(same_solid(run.tree_of(name), kept_tree(box(point(*low), point(*high)))), True)

    def test_deeds(self):
        for line, expression in (
                ("join n a r", ("join", BOX, KNOWN["r"])), ("cut n a r", ("meet", BOX, KNOWN["r"])), ("take n r a", ("take", KNOWN["r"], BOX)),
                ("take n a r", ("take", BOX, KNOWN["r"])), ("join n a a", ("join", BOX, BOX)), ("outside n ring", ("outside", KNOWN["ring"])),
                ("each n b 3 1 0 1/2", copies(HALF, 3, step=point(1, 0, (1, 2)))), ("each n b 1 1 0 0", copies(HALF, 1, step=point(1, 0, 0))),
                ("each n b 6 1 0 0", copies(HALF, 6, step=point(1, 0, 0)))):
            self.assert_made(line, expression)

    def test_names_like_words(self):
        run = Run()
        for name in ("box", "make", "x", "empty", "ask", "a1b2c3d4e5f6"):
            self.assertIsNone(run.step(f"make {name} box 0 0 0 1 1 1"))
        run.step("join join box make")
        self.assertEqual(run.names, sorted(["box", "make", "x", "empty", "ask", "a1b2c3d4e5f6", "join"]))
        self.assertEqual(run.step("ask empty empty"), "no")


class TestAnswers(SpaceTest):

    def assert_answers(self, run, *pairs):
        for line, answer in pairs:
            before = state_of(run)
            self.assert_same(run.step(line), answer, line)
            self.assertEqual(state_of(run), before)

    def test_at_and_hit(self):
        self.assert_answers(
            started(), ("ask at a 1/2 1 1", "in"), ("ask at a 1 1 1", "on"), ("ask at a 2 1 1", "out"), ("ask at ring 1 1/2 1/2", "in"),
            ("ask at ring 3/2 3/2 1/2", "out"), ("ask at f 0 0 0", "in"), ("ask at e 0 0 0", "out"), ("ask at b 9 9 6", "on"),
            ("ask hit a 1/2 1 5 0 0 -1", "2"), ("ask hit a 1/2 1 5 0 0 1", "none"), ("ask hit a 1/2 1 1 0 0 1", "0"), ("ask hit a 1/2 1 3 0 0 1", "0"),
            ("ask hit a 1/2 1 5 0 0 -3", "2/3"), ("ask hit e 0 0 0 1 1 1", "none"), ("ask hit f 0 0 0 1 1 1", "0"), ("ask hit ring 3/2 3/2 5 0 0 -1", "none"))

    def test_volumes_and_bounds(self):
        self.assert_answers(
            started("make w wedge 0 0 0 1 1 1/3"), ("ask volume a", "6"), ("ask volume ring", "8"), ("ask volume w", "1/6"), ("ask volume e", "0"),
            ("ask volume f", "unbounded"), ("ask volume b", "unbounded"), ("ask volume o", "unbounded"), ("ask bounded a", "yes"), ("ask bounded e", "yes"),
            ("ask bounded f", "no"), ("ask bounded o", "no"), ("ask empty e", "yes"), ("ask empty a", "no"), ("ask empty f", "no"))

    def test_forms(self):
        run = started("make p box 5 5 5 6 6 6", "make q box 6 6 6 7 7 7", "join two p q")
        self.assert_answers(
            run, ("ask convex a", "yes"), ("ask convex ring", "no"), ("ask convex e", "yes"), ("ask convex f", "yes"), ("ask convex two", "no"),
            ("ask pieces a", "1"), ("ask pieces e", "0"), ("ask pieces two", "2"), ("ask pieces f", "1"), ("ask hollows a", "0"), ("ask hollows o", "1"),
            ("ask hollows e", "0"), ("ask pieces o", "1"))

    def test_two_solids(self):
        run = started("join j a a", "make s box 1 0 0 2 2 3", "make t box 1 2 0 2 3 3", "make u box 1 2 3 2 3 4", "make v box 9 9 9 10 10 10", "cut c a r")
        self.assert_answers(
            run, ("ask same a j", "yes"), ("ask same a r", "no"), ("ask same e e", "yes"), ("ask within c a", "yes"), ("ask within a c", "no"),
            ("ask within e a", "yes"), ("ask within a f", "yes"), ("ask within a a", "yes"), ("ask within f a", "no"),
            ("ask relation a s", "touch 2"), ("ask relation a t", "touch 1"), ("ask relation a u", "touch 0"), ("ask relation a v", "apart"),
            ("ask relation a r", "overlap"), ("ask relation a o", "touch 2"), ("ask relation e f", "apart"))

    def test_pictures(self):
        run = started()
        self.assert_answers(
            run, ("draw ring straight 3 3 0 0 -1 1/2 5/2 9 1 0 0 0 -1 0", "888/808/888"), ("draw e straight 2 1 0 0 -1 0 0 0 0 0 0 0 0 0", "00"),
            ("draw f pinhole 1 2 0 0 0 1 1 1 0 0 0 0 0 0", "9/9"), ("draw a straight 1 1 0 0 -1 1/2 1/2 9 0 0 0 0 0 0", "8"),
            ("draw a straight 1 1 0 3 -4 1/2 -5 9 0 0 0 0 0 0", "5"),
            ("draw a straight 1 1 0 3 -4 1/2 -5 12 0 0 0 0 0 0", "6"))
        camera = ("pinhole", point(1, 2, 9), point(-2, -2, -6), point((1, 3), 0, 0), point(0, (1, 2), 0))
        wanted = picture_text(picture(run.tree_of("ring"), camera, 12, 10))
        self.assert_answers(run, ("draw ring pinhole 12 10 1 2 9 -2 -2 -6 1/3 0 0 0 1/2 0", wanted.replace("\n", "/")))
        self.assertGreater(len(set(wanted)), 3)
        self.assertEqual(len(wanted), 12 * 10 + 9)

    def test_papers(self):
        run = started("cut c a r", "make v box 9 9 9 10 10 10", "make up half 0 0 1 0 +")
        for line, right in (
                ("paper differ a r 1/2 1 2", True), ("paper differ r a 1/2 1 2", True), ("paper differ a r 1/2 1 1", False), ("paper differ a r 1/2 1 1/2", False),
                ("paper differ a r 9 9 9", False), ("paper differ a r 2 1/2 1/2", True), ("paper differ a r 1 1 2", False), ("paper differ a a 1/2 1/2 1/2", False),
                ("paper outlying a r 1/2 1 2", True), ("paper outlying r a 1/2 1 2", False), ("paper outlying a r 2 1/2 1/2", False), ("paper outlying r a 2 1/2 1/2", True),
                ("paper outlying c a 1/2 1/2 1/2", False), ("paper outlying a e 1/2 1/2 1/2", True), ("paper outlying a r 1/2 1 1", False),
                ("paper bent ring 1/2 3/2 1/2 5/2 3/2 1/2 3/2 3/2 1/2", True), ("paper bent ring 5/2 3/2 1/2 1/2 3/2 1/2 5/4 3/2 1/2", True),
                ("paper bent ring 1/2 3/2 1/2 3/2 3/2 1/2 5/2 3/2 1/2", False), ("paper bent ring 1/2 3/2 1/2 5/2 3/2 1/2 1 3/2 1/2", False),
                ("paper bent r 1/2 3/2 1/2 5/2 3/2 1/2 3/2 3/2 1/2", False), ("paper bent ring 1/2 3/2 1/2 1/2 3/2 1/2 1/2 3/2 1/2", False),
                ("paper far b 0 0 0 0 0 -1", True), ("paper far b 0 0 0 1 0 0", True), ("paper far b 0 0 0 0 0 1", False), ("paper far b 0 0 6 0 0 -1", False),
                ("paper far b 0 0 0 0 0 0", False), ("paper far a 1/2 1/2 1/2 1 0 0", False), ("paper far f 0 0 0 1 2 3", True), ("paper far e 0 0 0 1 0 0", False),
                ("paper far o 9 9 9 -1 -1 -1", False), ("paper far o 9 9 9 1 1 1", True), ("paper far f 0 0 0 0 0 0", False),
                ("paper parted a v 1 0 0 -5 -", True), ("paper parted v a 1 0 0 -5 +", True), ("paper parted a v 1 0 0 -5 +", False), ("paper parted a v 1 0 0 -1 -", True),
                ("paper parted a v 2 0 0 -1 -", False), ("paper parted a r 0 0 1 -1 +", False), ("paper parted e a 0 0 1 0 -", True), ("paper parted up o 0 0 1 0 +", False)):
            before = state_of(run)
            if right:
                self.assertIsNone(run.step(line), line)
            else:
                self.assert_error("RunFault", run.step, line, line=1, place=1, why="paper")
            self.assertEqual(state_of(run), before)


class TestErrors(SpaceTest):

    def assert_refused(self, line, place, why, run=None):
        run = run or started()
        before = state_of(run)
        self.assert_error("RunFault", run.step, line, line=1, place=place, why=why)
        self.assertEqual(state_of(run), before)
        # In a script the fault has the number of its line.
        script = "\n".join(START + [line, "make never empty"])
        if run.names == ALL:
            self.assert_error("RunFault", run_script, script, line=len(START) + 1, place=place, why=why)

    def test_names(self):
        for line, place, why in (
                ("make a empty", 2, "taken"), ("make ring full", 2, "taken"), ("move a a shift 1 1 1", 2, "taken"), ("move n x shift 1 1 1", 3, "unknown"),
                ("join a a b", 2, "taken"), ("join n x a", 3, "unknown"), ("join n a x", 4, "unknown"), ("cut n x y", 3, "unknown"), ("take n a y", 4, "unknown"),
                ("join a x y", 2, "taken"), ("join n n a", 3, "unknown"), ("join n a n", 4, "unknown"), ("outside a x", 2, "taken"), ("outside n n", 3, "unknown"),
                ("each a x 2 1 1 1", 2, "taken"), ("each n x 2 1 1 1", 3, "unknown"), ("ask at x 0 0 0", 3, "unknown"), ("ask hit x 0 0 0 1 0 0", 3, "unknown"),
                ("ask volume x", 3, "unknown"), ("ask bounded x", 3, "unknown"), ("ask empty x", 3, "unknown"), ("ask convex x", 3, "unknown"),
                ("ask pieces x", 3, "unknown"), ("ask hollows x", 3, "unknown"), ("ask same x a", 3, "unknown"), ("ask same a x", 4, "unknown"),
                ("ask same x y", 3, "unknown"), ("ask within a x", 4, "unknown"), ("ask relation x a", 3, "unknown"),
                ("draw x pinhole 1 1 0 0 0 1 0 0 0 0 0 0 0 0", 2, "unknown"), ("draw x straight 1 1 0 0 0 1 0 0 0 0 0 0 0 0", 2, "unknown"),
                ("paper differ x a 0 0 0", 3, "unknown"), ("paper differ a x 0 0 0", 4, "unknown"), ("paper outlying x y 0 0 0", 3, "unknown"),
                ("paper bent x 0 0 0 0 0 0 0 0 0", 3, "unknown"), ("paper far x 0 0 0 0 0 0", 3, "unknown"), ("paper parted x a 0 0 1 0 +", 3, "unknown"),
                ("paper parted a x 0 0 1 0 +", 4, "unknown"),
                # Bad names are told whatever else is wrong.
                ("make a box 1 1 1 0 0 0", 2, "taken"), ("make a prism 0 1 0 0 0 1 1 0", 2, "taken"), ("move n x scale 0 0 0", 3, "unknown"), ("ask hit x 0 0 0 0 0 0", 3, "unknown")):
            self.assert_refused(line, place, why)

    def test_shapes(self):
        for line, why in (
                ("make n box 0 0 0 1 0 1", "flat"), ("make n box 1 1 1 0 0 0", "flat"), ("make n wedge 0 0 0 1 1 -1", "flat"), ("make n tetra 0 0 0 1 0 0 0 1 0 1 1 0", "flat"),
                ("make n hull 0 0 0 1 0 0 0 1 0 1 1 0", "flat"), ("make n hull 0 0 0 0 0 0 0 0 0 0 0 0", "flat"), ("make n prism 1 1 0 0 1 0 0 1", "flat"),
                ("make n prism 0 1 0 0 0 1 1 0", "polygon"), ("make n prism 0 1 0 0 1 0 1 0", "polygon"), ("make n prism 0 1 0 0 4 0 1 1 0 4", "polygon"),
                # Both are due: flat stands before polygon.
                ("make n prism 1 0 0 0 0 1 1 0", "flat"), ("move n a scale 1 0 1", "singular"), ("move n a scale 0 0 0", "singular"),
                ("ask hit a 0 0 0 0 0 0", "direction"), ("ask hit e 0 0 0 0 0 0", "direction"), ("draw a straight 2 2 0 0 0 1 1 1 1 0 0 0 1 0", "direction"),
                ("draw e pinhole 1 1 0 0 0 0 0 0 1 0 0 0 1 0", "direction"), ("draw a pinhole 3 2 0 0 0 -2 -1 0 1 0 0 0 1 0", "direction")):
            self.assert_refused(line, 1, why)

    def test_large(self):
        # The size, with 77 nodes; the planes, with 14 of them and 64 nodes.
        self.assert_refused("each n a 6 2 0 0", 1, "large")
        self.assert_refused("each n a 5 2 0 0", 1, "large")
        self.assertIsNone(started().step("each n a 4 2 0 0"))
        self.assert_refused("make n prism 0 0 0 0 1 0 0 1", 1, "flat")
        # The depth.
        run = Run()
        run.step("make a0 half 0 0 1 0 +")
        for k in range(15):
            run.step(f"outside a{k + 1} a{k}")
        for line in ("outside n a15", "move n a15 mirror x", "join n a0 a15", "each n a15 1 0 0 0"):
            self.assert_refused(line, 1, "large", run)
        # A zero factor is told before.
        self.assert_refused("move n a15 scale 1 1 0", 1, "singular", run)

    def test_a_kept_tree_that_is_large(self):
        run = Run()
        for axis, normal in (("x", "1 0 0"), ("y", "0 1 0"), ("z", "0 0 1")):
            for k, side in enumerate("+-+-"):
                run.step(f"make {axis}{k} half {normal} {-k} {side}")
            for line in ("cut {0}a {0}0 {0}1", "cut {0}b {0}2 {0}3", "join {0} {0}a {0}b"):
                run.step(line.format(axis))
        for line in ("take p x y", "take q y x", "join r p q", "cut s r z", "take t x z"):
            run.step(line)
        self.assertEqual(size(("join", run.expression_of("s"), run.expression_of("t"))), 55)
        self.assert_refused("join n s t", 1, "large", run)
        self.assertEqual(run.expression_of("s"), CHECKERED[1])
        self.assertEqual(run.expression_of("t"), CHECKERED[2])

    def test_a_fault_of_the_words_comes_first(self):
        run = started()
        for line, place in (
                ("make a box 1 1 1 0 0", 9), ("make a emptyy", 3), ("join a x", 4), ("make a half 0 0 0 1 +", 4), ("ask volume x y", 4), ("", 1), (" ", 1),
                ("make n empty\nmake m empty", 3), ("make n empty\n", 3), ("\nmake n empty", 1), ("make n\n empty", 2), ("ask at a 0 0 0\n", 6), ("\n", 1),
                ("make\nn empty", 1), ("make n half 0 0 1 0 +\n", 8), ("make n half 0 0 1 0\n +", 7)):
            before = state_of(run)
            self.assert_error("TextFault", run.step, line, line=1, place=place)
            self.assertEqual(state_of(run), before)

    def test_asking_for_names(self):
        run = started()
        for name in ("x", "", "A", "aa", "a ", "no name", "1", "ring2", "abcdefghijklmnop", "a\n"):
            self.assert_error("RunFault", run.expression_of, name, line=0, place=0, why="unknown")
            self.assert_error("RunFault", run.tree_of, name, line=0, place=0, why="unknown")
        self.assert_same(run.expression_of(name="a"), BOX)
        self.assert_same(run.tree_of(name="a"), kept_tree(BOX))
        self.assert_error("RunFault", Run().tree_of, "a", line=0, place=0, why="unknown")


class TestRuns(SpaceTest):

    def test_the_class(self):
        for name in ("__init__", "step", "names", "expression_of", "tree_of"):
            self.assertIn(name, vars(Run))
        self.assertIsInstance(vars(Run)["names"], property)
        for name, told in (("__init__", "(self)"), ("step", "(self, line)"), ("expression_of", "(self, name)"), ("tree_of", "(self, name)")):
            self.assertEqual(str(inspect.signature(vars(Run)[name])), told)
        self.assertEqual((Run.__module__, Run.__bases__), (running.__name__, (object,)))
        with self.assertRaises(AttributeError):
            Run().names = []

    def test_names(self):
        run = Run()
        self.assert_same(run.names, [])
        for name in ("b", "a2", "a", "z", "a10"):
            run.step(line=f"make {name} empty")
        self.assert_same(run.names, ["a", "a10", "a2", "b", "z"])
        run.names.clear()
        self.assert_same(run.names, ["a", "a10", "a2", "b", "z"])

    def test_any_number_of_statements(self):
        run = Run()
        for k in range(100):
            self.assertIsNone(run.step(f"make a{k} empty"))
        self.assertEqual(len(run.names), 100)

    def test_scripts(self):
        self.assert_same(run_script(""), [])
        self.assert_same(run_script("make a empty"), [])
        self.assert_same(run_script(text="make a empty\nask empty a\nmake b full\nask same a b\npaper far b 0 0 0 1 0 0\nask volume a"), ["yes", "no", "0"])
        answers = run_script("\n".join(START + ["ask volume ring", "draw ring straight 2 1 0 0 -1 1/2 3/2 9 1 0 0 0 0 0", "ask pieces ring"]))
        self.assert_same(answers, ["8", "80", "1"])
        answers.clear()
        self.assert_same(run_script("make a empty\nask empty a"), ["yes"])

    def test_each_run_is_new(self):
        for _ in range(2):
            self.assert_same(run_script("make a empty\nask empty a"), ["yes"])
        one, other = Run(), Run()
        one.step("make a empty")
        self.assert_same(other.names, [])

    def test_parsed_as_a_whole_before_it_is_run(self):
        # The fault in line 3 comes before what line 1 or 2 would raise.
        self.assert_error("TextFault", run_script, "ask empty x\nmake a empty\nmake b", line=3, place=3)
        self.assert_error("TextFault", run_script, "make a box 1 1 1 0 0 0\nx", line=2, place=1)
        self.assert_error("TextFault", run_script, "\n".join(["make a empty"] * 41), line=41, place=1)
        self.assert_error("RunFault", run_script, "\n".join(["make a empty"] * 40), line=2, place=2, why="taken")

    def test_the_first_error_ends_the_run(self):
        self.assert_error("RunFault", run_script, "make a empty\nask empty b\nmake a full", line=2, place=3, why="unknown")
        self.assert_error("RunFault", run_script, "make a empty\nmake a full", line=2, place=2, why="taken")
        self.assert_error("RunFault", run_script, "make a box 0 0 0 0 0 0\nask empty b", line=1, place=1, why="flat")
        # What a refused statement would have made is not made.
        run = Run()
        self.assert_error("RunFault", run.step, "make a box 0 0 0 0 0 0", line=1, place=1, why="flat")
        self.assertIsNone(run.step("make a box 0 0 0 1 1 1"))

    def test_scripts_and_steps_agree(self):
        lines = START + ["ask volume ring", "ask convex ring", "each row a 2 2 0 0", "ask pieces row", "ask relation a row", "ask hit row 9 1 1 -1 0 0"]
        run = Run()
        stepped = [answer for answer in [run.step(line) for line in lines] if answer is not None]
        self.assert_same(run_script("\n".join(lines)), stepped)
        self.assert_same(stepped, ["8", "no", "2", "overlap", "6"])


if __name__ == "__main__":
    unittest.main()
