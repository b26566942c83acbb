"""Points 2 to 4 and the opening paragraphs of the interface: names, arguments, kinds, sharing, examples."""

import copy
import importlib
import inspect
import os
import subprocess
import sys
import unittest

from everypoint import errors
from everypoint.faces import faces
from everypoint.keeping import kept_tree, outside_tree
from everypoint.moves import STILL, quarter_turn, shift_by
from everypoint.pieces import convex_witness
from everypoint.rays import spans
from everypoint.slices import slices
from samples import RING, TWO_IN_A_CORNER
from support import X0, Y0, Z0, SpaceTest, kinds_of, lists_in, plane_at, point

ROOT = os.path.dirname(os.path.dirname(os.path.abspath(__file__)))

SIGNATURES = {
    "ratios": [
        "ratio(top, bottom=1)", "is_ratio(value)", "as_ratio(number)", "add(x, y)", "subtract(x, y)", "multiply(x, y)",
        "divide(x, y)", "negate(x)", "sign(x)", "compare(x, y)", "middle(x, y)", "sort_ratios(values)", "ratio_text(x)",
        "parse_ratio(text)", "is_name(value)"],
    "vectors": [
        "vector(x, y, z)", "is_vector(value)", "plus(u, v)", "minus(u, v)", "scaled(factor, v)", "dot(u, v)",
        "cross(u, v)", "triple(u, v, w)", "is_zero(v)", "axis_vector(axis)", "blend(p, q, t)", "compare_points(p, q)",
        "sort_points(points)", "in_line(p, q, r)", "strictly_between(p, q, r)"],
    "planes": [
        "make_half(a, b, c, d)", "make_plane(a, b, c, d)", "is_plane(value)", "is_half(value)", "value_at(plane, point)",
        "side_of(plane, point)", "normal_of(plane)", "opposite(half)", "plane_through(p, q, r)",
        "half_through(p, q, r, inside)", "parallel(first, second)", "meeting_point(first, second, third)"],
    "systems": [
        "is_conditions(value)", "holds(conditions, point)", "closed(conditions)", "common_point(conditions)",
        "has_point(conditions)", "is_refutation(conditions, value)", "dimension(conditions)",
        "pair_table(first, second)", "is_pair_table(first, second, value)", "sign_rows(planes)"],
    "moves": [
        "make_move(rows, shift)", "is_move(value)", "shift_by(step)", "scale_by(factors)", "mirror_axis(axis)",
        "quarter_turn(axis, times=1)", "moved_point(move, point)", "moved_vector(move, direction)",
        "moved_half(move, half)", "combine(first, second)", "inverse(move)", "determinant(move)", "mirrors(move)"],
    "expressions": [
        "is_expression(value)", "size(expression)", "depth(expression)", "halves_of(expression)",
        "planes_of(expression)", "check_expression(expression)", "without_moves(expression)",
        "truth(expression, sides)", "part_at(expression, path)", "replace_at(expression, path, part)"],
    "trees": [
        "is_tree(value)", "node_count(tree)", "tree_depth(tree)", "tree_planes(tree)", "cells(tree)", "in_cells(tree)",
        "out_cells(tree)", "tree_expression(tree)", "read_tree(tree, point)", "is_reduced(tree)", "cell_points(tree)",
        "tree_text(tree)", "parse_tree(text)"],
    "walls": ["walls(tree)", "walls_unlike(tree)", "is_kept(tree)"],
    "wording": ["expression_text(expression)", "parse_expression(text)"],
    "reading": ["read_expression(expression, point)", "truth_rows(expression)"],
    "keeping": [
        "kept_tree(expression)", "keep(tree)", "join_trees(first, second)", "meet_trees(first, second)",
        "take_trees(first, second)", "outside_tree(tree)", "move_tree(move, tree)", "inner_point(tree)",
        "outer_point(tree)", "is_empty(tree)", "is_full(tree)", "same_solid(first, second)", "within(first, second)",
        "difference_point(first, second)", "outlying_point(first, second)"],
    "shapes": [
        "meet_all(parts)", "join_all(parts)", "box(low, high)", "wedge(low, high)", "prism(corners, low, high)",
        "tetrahedron(p, q, r, s)", "hull(points)", "copies(expression, count, *, step)", "octahedron(centre, reach)",
        "slab(plane, other)"],
    "polygons": [
        "is_bounded_cell(cell)", "far_direction(cell)", "cell_corners(cell)", "is_bounded_patch(plane, bounds)",
        "patch_corners(plane, bounds)", "area_vector(corners)", "cell_facets(cell)", "cell_volume(cell)",
        "is_bounded(tree)", "far_ray(tree)"],
    "faces": [
        "faces(tree)", "on_face(face, point)", "faces_at(listed, point)", "outward_normal(face)", "face_corners(face)",
        "area_sum(listed)", "open_edges(listed)", "read_faces(listed, point)", "tree_of_faces(listed)"],
    "volumes": [
        "volume_by_cells(tree)", "volume_by_faces(tree)", "section(tree, plane)", "section_area(tree, plane, *, axis=2)"],
    "slices": ["level_plane(axis, t)", "slices(tree, *, axis=2)", "slice_volume(listed)", "area_at(listed, t)"],
    "rays": [
        "is_ray(value)", "ray_point(ray, t)", "spans(tree, ray)", "read_spans(listed, t)", "in_length(listed)",
        "first_hit(tree, ray)"],
    "pictures": [
        "is_camera(value)", "camera_ray(camera, column, row)", "level(normal, light, steps)",
        "pixel(tree, camera, column, row, *, light=None, steps=7)",
        "picture(tree, camera, width, height, *, light=None, steps=7)", "is_picture(value)", "picture_text(listed)",
        "parse_picture(text)", "compare_pictures(first, second)"],
    "pieces": [
        "pieces(tree)", "hollows(tree)", "piece_at(tree, point)", "piece_tree(tree, number)", "fill_hollows(tree)",
        "convex_witness(tree)", "is_bend(tree, value)"],
    "contact": [
        "relation(first, second)", "overlap_cube(first, second)", "is_overlap_cube(first, second, value)",
        "apart_table(first, second)", "parting_half(first, second)", "is_parting(first, second, half)"],
    "changes": [
        "is_order(expression, value)", "tree_by_order(expression, order)", "fewest_planes(expression)",
        "fewest_nodes(expression)"],
    "scripts": ["parse_script(text)", "script_text(statements)"],
    "running": ["run_script(text)"],
    "books": ["replay(rows)", "audit(rows)", "compare_books(first, second)", "shared_names(first, second)"],
}
CLASSES = {"solids": ["Solid"], "changes": ["Model"], "running": ["Run"], "books": ["Book"]}
# What can be passed by its name only.
NAMED_ONLY = {
    "copies": ["step"], "section_area": ["axis"], "slices": ["axis"], "pixel": ["light", "steps"], "picture": ["light", "steps"]}

# Books are no plain values: test_books.py calls these.
WITH_BOOKS = ("replay", "compare_books", "shared_names")

EXAMPLES = '''
>>> from everypoint.ratios import ratio
>>> ratio(6, -4)
(-3, 2)

>>> from everypoint.ratios import parse_ratio
>>> parse_ratio("-3/2")
(-3, 2)

>>> from everypoint.ratios import parse_ratio
>>> parse_ratio("2/4")
raises TextFault

>>> from everypoint.planes import make_half
>>> make_half(0, 0, (-1, 2), 3)
((0, 0, 1, -6), -1)

>>> from everypoint.planes import value_at
>>> value_at((0, 0, 1, -6), ((0, 1), (0, 1), (1, 2)))
(-11, 2)

>>> from everypoint.systems import is_refutation
>>> is_refutation([((0, 0, 1, 0), 1), ((0, 0, 1, 0), -1)], [(1, 1), (1, 1)])
True

>>> from everypoint.systems import sign_rows
>>> sign_rows([(0, 0, 1, 0), (0, 0, 1, -1)])
[(-1, -1), (1, -1), (1, 1)]

>>> from everypoint.wording import parse_expression
>>> parse_expression("outside\\n  half 0 0 1 -6 -")
('outside', ('half', (0, 0, 1, -6), -1))

>>> from everypoint.wording import parse_expression
>>> parse_expression("join\\n  full")
raises TextFault

>>> from everypoint.wording import parse_expression
>>> parse_expression("half 0 0 2 4 +")
raises TextFault

>>> from everypoint.reading import truth_rows
>>> truth_rows(("outside", ("half", (0, 0, 1, 0), 1)))
[((-1,), True), ((1,), False)]

>>> from everypoint.keeping import kept_tree
>>> kept_tree(("half", (0, 0, 1, 0), 1))
((0, 0, 1, 0), 'in', 'out')

>>> from everypoint.keeping import kept_tree
>>> kept_tree(("join", ("half", (0, 0, 1, 0), 1), ("half", (0, 0, 1, 0), -1)))
'in'

>>> from everypoint.keeping import kept_tree
>>> kept_tree(("meet", ("half", (0, 0, 1, 0), 1), ("half", (0, 0, 1, -2), -1)))
((0, 0, 1, -2), 'out', ((0, 0, 1, 0), 'in', 'out'))

>>> from everypoint.running import run_script
>>> run_script("make a half 0 0 1 0 +\\nmake b half 0 0 1 -2 -\\ncut c a b\\nask at c 0 5 1\\nask at c 0 5 2\\nask volume c\\nask relation a b")
['in', 'on', 'unbounded', 'overlap']

>>> from everypoint.running import run_script
>>> run_script("make a box 0 0 0 1 2 3\\nask volume a\\nask convex a\\nask hit a 1/2 1 5 0 0 -1")
['6', 'yes', '2']

>>> from everypoint.running import run_script
>>> run_script("make a empty\\nmake a full")
raises RunFault
'''

LAYER = ((0, 0, 1, -2), "out", ((0, 0, 1, 0), "in", "out"))
SOLID = ("take", ("move", quarter_turn(2), ("half", X0, 1)), ("outside", ("half", Z0, -1)))
P, Q, R = point(1, 2, 3), point((1, 2), 0, -1), point(0, (-2, 3), 5)
ENTRY = [(1, 1), (1, 1)]
RING_TREE = kept_tree(RING)
CELL = [(X0, 1), (plane_at(0, 1), -1), (Y0, 1), (plane_at(1, 1), -1), (Z0, 1), (plane_at(2, 1), -1)]
FACE, SAME_FACE = (Z0, 1, CELL[:4]), (Z0, 1, CELL[:4])
TWO_TREE = kept_tree(TWO_IN_A_CORNER)
THROUGH = (point(-1, (3, 2), (1, 2)), point(1, 0, 0))
CAMERA = ("straight", point(0, (1, 5), -1), point(0, 0, 4), point(1, 0, 0), point(0, 1, 0))

# For each function arguments by name, in their order.
CALLS = {
    "ratios": {
        "ratio": {"top": 6, "bottom": -4}, "is_ratio": {"value": (1, 2)}, "as_ratio": {"number": 5},
        "add": {"x": (1, 2), "y": (1, 3)}, "subtract": {"x": (1, 2), "y": (1, 3)},
        "multiply": {"x": (1, 2), "y": (2, 3)}, "divide": {"x": (1, 2), "y": (1, 3)}, "negate": {"x": (1, 2)},
        "sign": {"x": (-1, 2)}, "compare": {"x": (1, 2), "y": (1, 3)}, "middle": {"x": (1, 2), "y": (1, 3)},
        "sort_ratios": {"values": [(2, 1), (1, 2), (2, 1)]}, "ratio_text": {"x": (1, 2)}, "parse_ratio": {"text": "1/2"},
        "is_name": {"value": "box"}},
    "vectors": {
        "vector": {"x": 1, "y": (1, 2), "z": 0}, "is_vector": {"value": P}, "plus": {"u": P, "v": Q},
        "minus": {"u": P, "v": Q}, "scaled": {"factor": (1, 2), "v": P}, "dot": {"u": P, "v": Q},
        "cross": {"u": P, "v": Q}, "triple": {"u": P, "v": Q, "w": R}, "is_zero": {"v": P}, "axis_vector": {"axis": 1},
        "blend": {"p": P, "q": Q, "t": (1, 3)}, "compare_points": {"p": P, "q": Q},
        "sort_points": {"points": [P, Q, R, P]}, "in_line": {"p": P, "q": Q, "r": R},
        "strictly_between": {"p": P, "q": Q, "r": R}},
    "planes": {
        "make_half": {"a": 0, "b": -2, "c": (1, 2), "d": 3}, "make_plane": {"a": 0, "b": -2, "c": (1, 2), "d": 3},
        "is_plane": {"value": X0}, "is_half": {"value": (X0, 1)}, "value_at": {"plane": (1, 2, 3, 4), "point": Q},
        "side_of": {"plane": (1, 2, 3, 4), "point": Q}, "normal_of": {"plane": (1, 2, 3, 4)},
        "opposite": {"half": (X0, 1)}, "plane_through": {"p": P, "q": Q, "r": R},
        "half_through": {"p": P, "q": Q, "r": R, "inside": point(9, 9, 9)}, "parallel": {"first": X0, "second": Y0},
        "meeting_point": {"first": X0, "second": (0, 2, 0, 1), "third": (1, 1, 1, 1)}},
    "systems": {
        "is_conditions": {"value": [(X0, 1)]}, "holds": {"conditions": [(X0, 1), (Y0, 2)], "point": P},
        "closed": {"conditions": [(X0, 1), (Y0, 2)]}, "common_point": {"conditions": [(X0, 1), (Y0, -2), (X0, -1)]},
        "has_point": {"conditions": [(X0, 1), (Y0, -2)]},
        "is_refutation": {"conditions": [(X0, 1), (X0, -1)], "value": ENTRY},
        "dimension": {"conditions": [(X0, 2), (X0, -2)]},
        "pair_table": {"first": [[(X0, 1)], [(X0, 1)]], "second": [[(X0, -1)], [(X0, -2)]]},
        "is_pair_table": {"first": [[(X0, 1)]], "second": [[(X0, -1)]], "value": [[ENTRY]]},
        "sign_rows": {"planes": [Z0, Y0, (1, 1, 1, 1)]}},
    "moves": {
        "make_move": {"rows": [[1, 2, 0], (0, 1, 0), [0, 0, (1, 2)]], "shift": [0, 1, (1, 2)]}, "is_move": {"value": STILL},
        "shift_by": {"step": P}, "scale_by": {"factors": P}, "mirror_axis": {"axis": 2},
        "quarter_turn": {"axis": 1, "times": 3}, "moved_point": {"move": shift_by(Q), "point": P},
        "moved_vector": {"move": quarter_turn(0), "direction": P}, "moved_half": {"move": shift_by(Q), "half": (X0, 1)},
        "combine": {"first": shift_by(Q), "second": quarter_turn(0)}, "inverse": {"move": shift_by(Q)},
        "determinant": {"move": quarter_turn(0)}, "mirrors": {"move": STILL}},
    "expressions": {
        "is_expression": {"value": SOLID}, "size": {"expression": SOLID}, "depth": {"expression": SOLID},
        "halves_of": {"expression": SOLID}, "planes_of": {"expression": SOLID}, "check_expression": {"expression": SOLID},
        "without_moves": {"expression": SOLID}, "truth": {"expression": ("half", X0, 1), "sides": {X0: -1}},
        "part_at": {"expression": SOLID, "path": [0, 0]},
        "replace_at": {"expression": SOLID, "path": [1, 0], "part": ("full",)}},
    "trees": {
        "is_tree": {"value": LAYER}, "node_count": {"tree": LAYER}, "tree_depth": {"tree": LAYER},
        "tree_planes": {"tree": LAYER}, "cells": {"tree": LAYER}, "in_cells": {"tree": LAYER},
        "out_cells": {"tree": LAYER}, "tree_expression": {"tree": LAYER}, "read_tree": {"tree": LAYER, "point": P},
        "is_reduced": {"tree": LAYER}, "cell_points": {"tree": LAYER}, "tree_text": {"tree": LAYER},
        "parse_tree": {"text": "cut 1 0 0 0\n  in\n  out"}},
    "walls": {"walls": {"tree": RING_TREE}, "walls_unlike": {"tree": RING_TREE}, "is_kept": {"tree": RING_TREE}},
    "wording": {"expression_text": {"expression": SOLID}, "parse_expression": {"text": "take\n  full\n  half 1 0 0 0 +"}},
    "reading": {"read_expression": {"expression": RING, "point": P}, "truth_rows": {"expression": SOLID}},
    "keeping": {
        "kept_tree": {"expression": RING}, "keep": {"tree": (X0, LAYER, "out")},
        "join_trees": {"first": LAYER, "second": (X0, "in", "out")},
        "meet_trees": {"first": LAYER, "second": (X0, "in", "out")},
        "take_trees": {"first": LAYER, "second": (X0, "in", "out")}, "outside_tree": {"tree": LAYER},
        "move_tree": {"move": quarter_turn(0), "tree": LAYER}, "inner_point": {"tree": LAYER}, "outer_point": {"tree": LAYER},
        "is_empty": {"tree": LAYER}, "is_full": {"tree": LAYER}, "same_solid": {"first": LAYER, "second": RING_TREE},
        "within": {"first": RING_TREE, "second": LAYER}, "difference_point": {"first": RING_TREE, "second": LAYER},
        "outlying_point": {"first": LAYER, "second": RING_TREE}},
    "shapes": {
        "meet_all": {"parts": [SOLID, ("full",), SOLID]}, "join_all": {"parts": [SOLID, ("full",)]},
        "box": {"low": Q, "high": P}, "wedge": {"low": Q, "high": P},
        "prism": {"corners": [(0, 0), ((1, 2), 0), (0, (3, 1))], "low": (1, 2), "high": 3},
        "tetrahedron": {"p": P, "q": Q, "r": R, "s": point(9, 8, 8)}, "hull": {"points": [P, Q, R, point(9, 8, 8), P]},
        "copies": {"expression": SOLID, "count": 3, "step": P}, "octahedron": {"centre": P, "reach": (2, 3)},
        "slab": {"plane": (0, 0, 2, 1), "other": Z0}},
    "polygons": {
        "is_bounded_cell": {"cell": CELL}, "far_direction": {"cell": CELL[:3]}, "cell_corners": {"cell": CELL},
        "is_bounded_patch": {"plane": Z0, "bounds": CELL[:4]}, "patch_corners": {"plane": Z0, "bounds": CELL[:4]},
        "area_vector": {"corners": [P, Q, R]}, "cell_facets": {"cell": CELL}, "cell_volume": {"cell": CELL},
        "is_bounded": {"tree": LAYER}, "far_ray": {"tree": LAYER}},
    "faces": {
        "faces": {"tree": RING_TREE}, "on_face": {"face": FACE, "point": P},
        "faces_at": {"listed": [FACE, SAME_FACE], "point": point((1, 2), (1, 2), 0)}, "outward_normal": {"face": FACE},
        "face_corners": {"face": FACE}, "area_sum": {"listed": [FACE, SAME_FACE]}, "open_edges": {"listed": [FACE, SAME_FACE]},
        "read_faces": {"listed": faces(RING_TREE), "point": P}, "tree_of_faces": {"listed": faces(RING_TREE)}},
    "volumes": {
        "volume_by_cells": {"tree": RING_TREE}, "volume_by_faces": {"tree": RING_TREE},
        "section": {"tree": RING_TREE, "plane": (0, 0, 2, -1)},
        "section_area": {"tree": RING_TREE, "plane": (0, 0, 2, -1), "axis": 2}},
    "slices": {
        "level_plane": {"axis": 1, "t": (1, 2)}, "slices": {"tree": RING_TREE, "axis": 0},
        "slice_volume": {"listed": slices(RING_TREE, axis=0)}, "area_at": {"listed": slices(RING_TREE, axis=0), "t": (1, 3)}},
    "rays": {
        "is_ray": {"value": (P, Q)}, "ray_point": {"ray": (P, Q), "t": (1, 2)}, "spans": {"tree": RING_TREE, "ray": THROUGH},
        "read_spans": {"listed": spans(RING_TREE, THROUGH), "t": (5, 2)}, "in_length": {"listed": spans(RING_TREE, THROUGH)},
        "first_hit": {"tree": RING_TREE, "ray": THROUGH}},
    "pictures": {
        "is_camera": {"value": CAMERA}, "camera_ray": {"camera": CAMERA, "column": 2, "row": 1},
        "level": {"normal": P, "light": Q, "steps": 5},
        "pixel": {"tree": RING_TREE, "camera": CAMERA, "column": 1, "row": 2, "light": Q, "steps": 5},
        "picture": {"tree": RING_TREE, "camera": CAMERA, "width": 4, "height": 3, "light": Q, "steps": 5},
        "is_picture": {"value": [[0, 1], [2, 9]]}, "picture_text": {"listed": [[0, 1], [2, 9]]},
        "parse_picture": {"text": "01\n29"}, "compare_pictures": {"first": [[0, 1], [2, 9]], "second": [[0, 3], [2, 8]]}},
    "pieces": {
        "pieces": {"tree": TWO_TREE}, "hollows": {"tree": outside_tree(TWO_TREE)},
        "piece_at": {"tree": TWO_TREE, "point": point((3, 2), (3, 2), (3, 2))}, "piece_tree": {"tree": TWO_TREE, "number": 1},
        "fill_hollows": {"tree": outside_tree(TWO_TREE)}, "convex_witness": {"tree": RING_TREE},
        "is_bend": {"tree": RING_TREE, "value": convex_witness(RING_TREE)}},
    "contact": {
        "relation": {"first": RING_TREE, "second": TWO_TREE}, "overlap_cube": {"first": RING_TREE, "second": TWO_TREE},
        "is_overlap_cube": {"first": RING_TREE, "second": TWO_TREE, "value": (point((1, 2), (1, 2), (1, 2)), (1, 2))},
        "apart_table": {"first": TWO_TREE, "second": kept_tree(("half", plane_at(0, 3), 1))},
        "parting_half": {"first": (X0, "in", "out"), "second": (X0, "out", (plane_at(1, 3), "in", "out"))},
        "is_parting": {"first": RING_TREE, "second": TWO_TREE, "half": (X0, 1)}},
    "changes": {
        "is_order": {"expression": SOLID, "value": [Y0, Z0]}, "tree_by_order": {"expression": SOLID, "order": [Y0, Z0]},
        "fewest_planes": {"expression": SOLID}, "fewest_nodes": {"expression": SOLID}},
    "scripts": {
        "parse_script": {"text": "make a empty\nask empty a"},
        "script_text": {"statements": [("make", "a", "empty"), ("ask", "empty", "a")]}},
    "running": {"run_script": {"text": "make a empty\nask empty a\nask volume a"}},
    "books": {"audit": {"rows": ["make a empty", "ask empty a = yes", "ask empty a = no"]}},
}

TABLE_OF_ANSWERS = '''
from everypoint.systems import common_point, pair_table, sign_rows
from everypoint.trees import cell_points
from everypoint.expressions import planes_of
planes = [(1, k, k * k, k ** 3 - 2) for k in (3, -2, 5, 0, -4)]
conditions = [(plane, need) for plane in planes for need in (1, 2)]
print(sign_rows(planes), common_point(conditions), common_point(conditions + [(planes[0], -1)]))
print(pair_table([conditions, conditions[2:]], [conditions[:2]]))
print(pair_table([conditions[:2]], [[(planes[0], -2)], [(planes[0], -1), (planes[1], 0)]]))
print(cell_points((planes[1], (planes[0], "in", "out"), "in")))
print(planes_of(("join", ("half", planes[0], 1), ("join", ("half", planes[1], 1), ("half", planes[2], 1)))))
from everypoint.keeping import difference_point, inner_point, kept_tree, outer_point, outlying_point
from everypoint.polygons import cell_facets, far_direction, far_ray
from everypoint.shapes import box, hull
from everypoint.faces import faces, open_edges, tree_of_faces
from everypoint.volumes import section, volume_by_faces
points = [((k, 1), (k * k, 1), (k ** 3, 1)) for k in range(-3, 5)]
tree = kept_tree(hull(points))
half = (planes[0], "in", "out")
other = kept_tree(("take", box(points[3], points[6]), box(points[4], points[5])))
print(tree, other, inner_point(tree), outer_point(other), outlying_point(tree, other), difference_point(other, half))
print(far_direction([(planes[0], 1), (planes[1], -1)]), far_ray(half), far_direction([]))
print(faces(other), open_edges(faces(other)[::2]), tree_of_faces(faces(tree)), volume_by_faces(tree))
print(section(other, (1, 1, 0, -2)), cell_facets([
    ((1, 0, 0, 0), 1), ((0, 1, 0, 0), 1), ((0, 0, 1, 0), 1), ((1, 2, 3, -4), -1)]))
from everypoint.pictures import picture
from everypoint.pieces import convex_witness, hollows, pieces
from everypoint.rays import first_hit, spans
from everypoint.slices import slices
ray = (points[0], ((1, 1), (-1, 1), (2, 1)))
print(slices(tree, axis=1), spans(other, ray), first_hit(tree, ray), pieces(other), hollows(other), convex_witness(other))
print(picture(tree, ("pinhole", points[0], points[7], ray[1], points[3]), 5, 4, light=points[2], steps=6))
from everypoint.books import Book
from everypoint.changes import Model, fewest_nodes, tree_by_order
from everypoint.contact import apart_table, overlap_cube, parting_half, relation
from everypoint.moves import shift_by
moved = kept_tree(("move", shift_by(points[7]), hull(points)))
print(relation(tree, moved), relation(tree, other), overlap_cube(tree, other), apart_table(other, moved), parting_half(tree, moved))
print(tree_by_order(hull(points[:4]), planes_of(hull(points[:4]))[::-1]), fewest_nodes(hull(points[:4])))
book, model = Book(), Model(hull(points))
for line in ("make a hull 0 0 0 1 1 1 2 4 8 3 9 27", "move b a turn y 1", "take c a b", "ask pieces c", "ask hit c 0 0 9 1 2 0"):
    print(book.enter(line))
print(model.change([0, 0], hull(points[:5])), model.back(), book.names, list(book.twin()))
'''


def function_named(module, name):
    return getattr(importlib.import_module("everypoint." + module), name)


def all_calls():
    for module, calls in CALLS.items():
        for name, named in calls.items():
            yield module, name, function_named(module, name), named


def plain_kinds(value):
    """True if the value has only Python's own kinds and is no float, set or dict."""
    if isinstance(value, (list, tuple)):
        return type(value) in (list, tuple) and all(plain_kinds(member) for member in value)
    return value is None or type(value) in (int, str, bool)


class TestNames(SpaceTest):

    def test_signatures(self):
        for module, listed in SIGNATURES.items():
            for entry in listed:
                function = function_named(module, entry[:entry.index("(")])
                self.assertEqual(function.__name__ + str(inspect.signature(function)), entry)

    def test_each_function_is_defined_where_it_is_listed(self):
        for module, listed in SIGNATURES.items():
            for entry in listed:
                function = function_named(module, entry[:entry.index("(")])
                self.assertTrue(inspect.isfunction(function))
                self.assertEqual(function.__module__, "everypoint." + module)

    def test_every_listed_function_is_called_here(self):
        for module, listed in SIGNATURES.items():
            names = [entry[:entry.index("(")] for entry in listed]
            self.assertEqual(list(CALLS[module]), [name for name in names if name not in WITH_BOOKS])

    def test_each_class_is_defined_where_it_is_listed(self):
        for module, listed in CLASSES.items():
            for name in listed:
                found = function_named(module, name)
                self.assertTrue(inspect.isclass(found))
                self.assertEqual((found.__module__, found.__name__), ("everypoint." + module, name))


class TestCalls(SpaceTest):

    def test_by_position_and_by_name(self):
        for module, name, function, named in all_calls():
            given = copy.deepcopy(named)
            named_only = {key: given.pop(key) for key in NAMED_ONLY.get(name, [])}
            by_position = function(*given.values(), **named_only)
            by_name = function(**copy.deepcopy(named))
            backwards = function(**dict(reversed(list(copy.deepcopy(named).items()))))
            self.assert_same(by_name, by_position, name)
            self.assert_same(backwards, by_position, name)

    def test_arguments_stay_as_they_were(self):
        for module, name, function, named in all_calls():
            given = copy.deepcopy(named)
            function(**given)
            self.assertEqual(
                [(key, kinds_of(value)) for key, value in given.items()],
                [(key, kinds_of(value)) for key, value in named.items()], name)

    def test_kinds_of_answers(self):
        for module, name, function, named in all_calls():
            answer = function(**copy.deepcopy(named))
            self.assertTrue(plain_kinds(answer), name)
            if name.startswith("is_") or name in ("in_line", "strictly_between", "parallel", "holds", "has_point",
                                                  "mirrors", "truth", "same_solid", "within", "on_face"):
                self.assertIs(type(answer), bool, name)
            if name in ("sort_ratios", "sort_points", "closed", "sign_rows", "halves_of", "planes_of", "tree_planes",
                        "cells", "in_cells", "out_cells", "cell_points", "walls", "walls_unlike", "truth_rows",
                        "cell_corners", "patch_corners", "cell_facets", "faces", "faces_at", "face_corners",
                        "open_edges", "section", "slices", "spans", "picture", "parse_picture", "compare_pictures", "pieces",
                        "hollows", "apart_table", "parse_script", "run_script"):
                self.assertIs(type(answer), list, name)

    def test_no_list_is_shared(self):
        for module, name, function, named in all_calls():
            given = copy.deepcopy(named)
            answer = function(**given)
            expected = kinds_of(answer)
            lists = lists_in(answer)
            places = [id(member) for member in lists + lists_in(list(given.values()))]
            self.assertEqual(len(set(places)), len(places), name)
            for member in lists:
                member.append("changed")
            self.assertEqual(kinds_of(function(**given)), expected, name)

    def test_a_list_that_was_passed_and_is_changed_has_no_effect(self):
        for module, name, function, named in all_calls():
            given = copy.deepcopy(named)
            answer = function(**given)
            expected = kinds_of(answer)
            for member in lists_in(list(given.values())):
                member.clear()
            self.assertEqual(kinds_of(answer), expected, name)

    def test_the_same_answer_in_different_runs(self):
        answers = []
        for seed in ("0", "1", "77"):
            environment = dict(os.environ, PYTHONHASHSEED=seed, PYTHONPATH=ROOT)
            done = subprocess.run(
                [sys.executable, "-c", TABLE_OF_ANSWERS], env=environment, capture_output=True, text=True, check=True)
            answers.append(done.stdout)
        self.assertEqual(len(answers[0].split("\n")), 20)
        self.assertEqual(answers, answers[:1] * 3)


class TestExamples(SpaceTest):

    def test_word_for_word(self):
        examples = [block.split("\n") for block in EXAMPLES.strip().split("\n\n")]
        self.assertEqual(len(examples), 17)
        for lines in examples:
            names = {}
            exec(lines[0].removeprefix(">>> "), names)
            call = lines[1].removeprefix(">>> ")
            if lines[2].startswith("raises "):
                with self.assertRaises(getattr(errors, lines[2].removeprefix("raises "))):
                    eval(call, names)
            else:
                self.assertEqual(repr(eval(call, names)), lines[2])


class TestPlainRules(SpaceTest):

    def test_negative_indexes_do_not_count_from_the_end(self):
        part_at = function_named("expressions", "part_at")
        self.assert_error("BadPath", part_at, SOLID, [-1])
        self.assert_error("BadPath", part_at, SOLID, [1, -1])

    def test_a_bool_is_no_integer_at_any_place(self):
        for module, name, value in (
                ("ratios", "is_ratio", (True, 1)), ("ratios", "is_ratio", (1, True)),
                ("vectors", "is_vector", ((1, True), (1, 1), (1, 1))), ("planes", "is_plane", (True, 0, 0, 0)),
                ("planes", "is_half", (X0, True)), ("systems", "is_conditions", [(X0, True)]),
                ("systems", "is_conditions", [(X0, False)]), ("moves", "is_move", (STILL[0], ((False, 1),) * 3)),
                ("expressions", "is_expression", ("half", X0, True)), ("trees", "is_tree", (X0, "in", True)),
                ("trees", "is_tree", (plane_at(2, 0)[:2] + (True, 0), "in", "out"))):
            self.assertIs(function_named(module, name)(value), False, (name, value))


if __name__ == "__main__":
    unittest.main()
