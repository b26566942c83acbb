"""Point 1 and points 65 to 67: what the document promises over the whole program."""

import random
import unittest

from everypoint.books import Book, audit, compare_books, replay
from everypoint.changes import Model, fewest_planes, tree_by_order
from everypoint.contact import relation
from everypoint.expressions import part_at, parts_of, planes_of, replace_at, size
from everypoint.faces import faces, faces_at, read_faces, tree_of_faces
from everypoint.keeping import join_trees, keep, kept_tree, meet_trees, outside_tree, same_solid, take_trees
from everypoint.moves import quarter_turn, shift_by
from everypoint.pictures import camera_ray, pixel
from everypoint.pieces import hollows, piece_at, piece_tree, pieces
from everypoint.polygons import is_bounded
from everypoint.ratios import add
from everypoint.rays import first_hit, ray_point, read_spans, spans
from everypoint.reading import read_expression, truth_rows
from everypoint.slices import slice_volume, slices
from everypoint.solids import Solid
from everypoint.systems import sign_rows
from everypoint.trees import cells, node_count, read_tree, tree_depth, tree_expression, tree_planes
from everypoint.vectors import minus
from everypoint.volumes import volume_by_cells, volume_by_faces
from everypoint.walls import is_kept, walls
from everypoint.wording import expression_text, parse_expression
from samples import (
    BOUNDED, CUBES_TREE, NOT_BOUNDED, SPREAD, points_of, some_bodies, some_expression, some_kept_trees, some_planes, some_point)
from support import SpaceTest, point

ZERO = point(0, 0, 0)


def solids(seed, count):
    """Tuples (expression, kept tree), bounded and not."""
    chooser = random.Random(seed)
    made = [(expression, kept_tree(expression)) for expression in list(BOUNDED.values()) + list(NOT_BOUNDED.values())]
    made += some_bodies(seed + 1, count)
    return made + some_kept_trees(
        chooser, lambda: some_expression(chooser, some_planes(chooser, chooser.randint(2, 7)), chooser.randint(3, 9)), count)


class TestReadings(SpaceTest):

    def test_the_four_ways_of_reading_agree(self):
        """Plain reading, kept tree, faces and spans; and pictures and pieces with them."""
        told = {}
        for seed, (expression, tree) in enumerate(solids(1, 12)):
            chooser = random.Random(seed)
            bounded, listed = is_bounded(tree), faces(tree)
            places = points_of(expression, seed, 10)
            for place in places:
                wanted = read_expression(expression, place)
                told[wanted] = told.get(wanted, 0) + 1
                self.assertEqual(read_tree(tree, place), wanted)
                self.assertEqual(read_expression(tree_expression(tree), place), wanted)
                self.assertIs(bool(faces_at(listed, place)), wanted == "on")
                if bounded:
                    self.assertEqual(read_faces(listed, place), wanted)
                self.assertIs(piece_at(tree, place) is not None, wanted == "in")
                origin = chooser.choice(places)
                direction = minus(place, origin)
                if direction != ZERO:
                    self.assertEqual(read_spans(spans(tree, (origin, direction)), (1, 1)), wanted)
                direction = some_point(chooser)
                if direction != ZERO:
                    self.assertEqual(spans(tree, (place, direction))[0][1], wanted)
                    self.assert_first_hit(tree, (place, direction), wanted)
        self.assertEqual(len(told), 3)
        self.assertGreater(min(told.values()), 40)

    def assert_first_hit(self, tree, ray, reading):
        """The pixel, the first hit and the spans of a ray tell the same."""
        camera = ("pinhole", ray[0], ray[1], ZERO, ZERO)
        self.assert_same(camera_ray(camera, 0, 0), ray)
        hit = first_hit(tree, ray)
        shown = pixel(tree, camera, 0, 0, steps=3)
        if hit is None:
            self.assertEqual({span[2] for span in spans(tree, ray)}, {"out"})
            self.assertEqual(shown, 0)
        else:
            self.assertEqual(read_tree(tree, ray_point(ray, hit[0])), hit[1])
            self.assertIs(shown == 5, hit[1] == "in")
            self.assertIn(shown, range(1, 6))
            self.assertIs(hit[0] == (0, 1), reading != "out")

    def test_the_ways_to_a_kept_tree_agree(self):
        chooser = random.Random(2)
        for expression, tree in solids(3, 12):
            self.assertIs(is_kept(tree), True)
            self.assert_same(keep(tree), tree)
            self.assert_same(Solid(expression).kept(), tree)
            self.assert_same(Model(expression).tree, tree)
            self.assert_same(kept_tree(parse_expression(expression_text(expression))), tree)
            self.assert_same(outside_tree(outside_tree(tree)), tree)
            order = chooser.sample(tree_planes(tree), len(tree_planes(tree)))
            self.assert_same(keep(tree_by_order(expression, order)), tree)
            if is_bounded(tree):
                self.assert_same(tree_of_faces(faces(tree)), tree)
            whole = "out"
            for number in range(len(pieces(tree))):
                whole = join_trees(whole, piece_tree(tree, number))
            self.assert_same(whole, tree)

    def test_equal_kept_trees_exactly_for_alike_expressions(self):
        chooser = random.Random(4)
        alike = 0
        for _ in range(80):
            planes = some_planes(chooser, 3, 1)
            first, second = some_expression(chooser, planes, 4), some_expression(chooser, planes, 4)
            union = planes_of(("join", first, second))
            whole = [truth for signs, truth in truth_rows(("join", ("take", first, second), ("take", second, first)))]
            self.assertIs(kept_tree(first) == kept_tree(second), not any(whole))
            self.assertEqual(len(whole), len(sign_rows(union)))
            alike += not any(whole)
        self.assertGreater(alike, 3)


class TestVolumes(SpaceTest):

    def test_cells_faces_and_slices_agree(self):
        for expression, tree in solids(5, 10) + [(None, CUBES_TREE)]:
            if is_bounded(tree):
                volume = volume_by_cells(tree)
                self.assert_same(volume_by_faces(tree), volume)
                for axis in range(3):
                    self.assert_same(slice_volume(slices(tree, axis=axis)), volume)
                total = (0, 1)
                for number in range(len(pieces(tree))):
                    total = add(total, volume_by_faces(piece_tree(tree, number)))
                self.assert_same(total, volume)
            else:
                for call in (volume_by_cells, volume_by_faces, slices):
                    self.assert_error("Unbounded", call, tree)

    def test_join_and_meet(self):
        found = 0
        for (_, first), (_, second) in zip(some_bodies(6, 15), some_bodies(7, 15)):
            try:
                join, meet, rest = join_trees(first, second), meet_trees(first, second), take_trees(first, second)
            except ValueError:
                continue
            found += 1
            both = add(slice_volume(slices(first)), volume_by_cells(second))
            self.assert_same(add(slice_volume(slices(join)), volume_by_faces(meet)), both)
            self.assert_same(add(slice_volume(slices(rest)), volume_by_faces(meet)), volume_by_cells(first))
            self.assertIs(relation(first, second)[0] == "overlap", meet != "out")
            self.assertNotEqual(relation(rest, second)[0], "overlap")
        self.assertGreater(found, 4)


class TestModelsAndBooks(SpaceTest):

    def test_a_model_has_the_kept_tree_of_its_expression(self):
        chooser = random.Random(8)
        for _ in range(6):
            planes = some_planes(chooser, 5, 2)
            model = Model(some_expression(chooser, planes, 5))
            for _ in range(6):
                paths = [[]] + [[k] for k in range(len(parts_of(model.expression)))]
                path, part = chooser.choice(paths), some_expression(chooser, planes, 3)
                if chooser.random() < 0.3:
                    part = ("move", chooser.choice([quarter_turn(1), shift_by(point(1, 0, 0))]), part)
                if len(planes_of(replace_at(model.expression, path, part))) <= 12:
                    model.change(path, part)
                    self.assert_same(model.rebuilt, size(part) + len(path))
                self.assert_same(model.tree, kept_tree(model.expression))
                self.assert_same(model.part_tree(path), kept_tree(part_at(model.expression, path)))
            while model.changes:
                self.assert_same(model.back(), kept_tree(model.expression))

    def test_a_book_replays_to_the_same_rows(self):
        book = Book()
        lines = ["make a box 0 0 0 2 2 2", "make b wedge 1 1 1 3 3 3", "join c a b", "cut d a b", "take e a b", "outside f e", "move g c turn y 2", "each h a 3 3 0 0"]
        for name in "abcdefgh":
            lines += [f"ask volume {name}", f"ask convex {name}", f"ask hit {name} 1/2 1/2 9 0 0 -1", f"ask at {name} 1 1 3/2"]
        lines += ["ask relation a b", "ask within d a", "ask same c g", "draw c straight 6 4 0 0 -1 1/4 11/4 9 1/2 0 0 0 -3/4 0"]
        for line in lines:
            row = book.enter(line)
            self.assertEqual(row.partition(" = ")[0], line)
        self.assertIsNone(audit(book.rows))
        again = replay(book.rows)
        self.assertIsNone(compare_books(book, again))
        self.assert_same(again.rows, book.rows)
        for name in book.names:
            self.assert_same(again.tree_of(name), book.tree_of(name))
            self.assertIs(same_solid(again.tree_of(name), book.twin().tree_of(name)), True)


class TestSizes(SpaceTest):

    def test_bounds(self):
        trees = [tree for expression, tree in solids(9, 15)] + [CUBES_TREE, kept_tree(SPREAD), "in", "out"]
        for tree in trees:
            nodes, planes = node_count(tree), tree_planes(tree)
            self.assertEqual(len(cells(tree)), nodes + 1)
            self.assertLessEqual(len(walls(tree)), nodes * (nodes + 1) // 2)
            self.assertLessEqual(len(faces(tree)), len(walls(tree)))
            self.assertLessEqual(sum(len(group) for group in pieces(tree) + hollows(tree)), nodes + 1)
            self.assertLessEqual(tree_depth(tree), len(planes))
            self.assertLessEqual(size(tree_expression(tree)), 6 * nodes + 1)
            k = len(planes)
            self.assertLessEqual(len(sign_rows(planes)), 1 + k + k * (k - 1) // 2 + k * (k - 1) * (k - 2) // 6)
            self.assertLessEqual(len(spans(tree, (point(-9, -8, -7), point(3, 4, 5)))), k + 1)

    def test_no_alike_expression_has_fewer_planes(self):
        for expression, tree in solids(10, 8):
            self.assertEqual(fewest_planes(expression), len(tree_planes(tree)))
            self.assertLessEqual(fewest_planes(expression), len(planes_of(expression)))

    def test_neighbouring_rows(self):
        """Point 65: any two sign rows are joined by a chain of rows, each of which differs from the next in one sign."""
        chooser = random.Random(11)
        for count in (1, 3, 5, 7):
            rows = sign_rows(some_planes(chooser, count))
            reached, waiting = {rows[0]}, [rows[0]]
            while waiting:
                row = waiting.pop()
                for at in range(count):
                    other = row[:at] + (-row[at],) + row[at + 1:]
                    if other in rows and other not in reached:
                        reached.add(other)
                        waiting.append(other)
            self.assertEqual(sorted(reached), rows)


if __name__ == "__main__":
    unittest.main()
