"""Cameras, pixels and pictures: what a solid looks like, in the digits 0 to 9."""

from everypoint.errors import NoDirection, TextFault
from everypoint.faces import faces
from everypoint.planes import normal_of
from everypoint.ratios import DIGITS, compare, is_integer, multiply, sign
from everypoint.rays import hit_on
from everypoint.vectors import dot, is_vector, is_zero, plus, scaled

MOST_LINES = 12
CAMERA_WORDS = ("pinhole", "straight")


def is_camera(value):
    """True if the value is a tuple of a camera's word and four vectors."""
    if not isinstance(value, tuple) or len(value) != 5:
        return False
    return value[0] in CAMERA_WORDS and all([is_vector(part) for part in value[1:]])


def camera_ray(camera, column, row):
    """Returns the ray of the pixel in this column and row."""
    word, first, corner, right, down = camera
    place = plus(corner, plus(scaled((column, 1), right), scaled((row, 1), down)))
    origin, direction = (first, place) if word == "pinhole" else (place, first)
    if is_zero(direction):
        raise NoDirection()
    return (origin, direction)


def level(normal, light, steps):
    """Returns how much of the steps a face of this normal shows in the light."""
    product = dot(normal, light)
    bound = multiply((steps * steps, 1), multiply(product, product))
    unit = multiply(dot(normal, normal), dot(light, light))
    # The product of the lengths is at least that of the vectors, so the last step fits at most exactly.
    k = steps
    while compare(multiply((k * k, 1), unit), bound) > 0:
        k -= 1
    return k


def brightness(half, light, steps):
    """Returns the brightness of a half of a hit: zero if its outward normal does not look against the light."""
    plane, side = half
    normal = scaled((-side, 1), normal_of(plane))
    return level(normal, light, steps) if sign(dot(normal, light)) < 0 else 0


def check_light(light):
    """Raises NoDirection for a light that has none."""
    if light is not None and is_zero(light):
        raise NoDirection()


def ray_pixel(tree, listed, ray, light, steps):
    """Returns the pixel of a ray, for a kept tree and the list of its faces."""
    hit = hit_on(tree, listed, ray)
    if hit is None:
        return 0
    t, reading, halves = hit
    if reading == "in":
        return steps + 2
    direction = ray[1] if light is None else light
    return 1 + max([brightness(half, direction, steps) for half in halves])


def pixel(tree, camera, column, row, *, light=None, steps=7):
    """Returns the pixel of the solid of a kept tree in this column and row."""
    check_light(light)
    return ray_pixel(tree, faces(tree), camera_ray(camera, column, row), light, steps)


def picture(tree, camera, width, height, *, light=None, steps=7):
    """Returns the picture of the solid of a kept tree with this number of columns and rows."""
    check_light(light)
    listed = faces(tree)
    return [
        [ray_pixel(tree, listed, camera_ray(camera, column, row), light, steps) for column in range(width)]
        for row in range(height)
    ]


def is_row(value):
    """True if the value is a list of 1 to 12 pixels."""
    if not isinstance(value, list) or not 1 <= len(value) <= MOST_LINES:
        return False
    return all([is_integer(member) and 0 <= member <= 9 for member in value])


def is_picture(value):
    """True if the value is a list of 1 to 12 rows of pixels, all of the same length."""
    if not isinstance(value, list) or not 1 <= len(value) <= MOST_LINES:
        return False
    return all([is_row(member) for member in value]) and all([len(member) == len(value[0]) for member in value])


def picture_text(listed):
    """Returns the text of a picture."""
    return "\n".join(["".join([str(member) for member in row]) for row in listed])


def read_row(content, line, width):
    """Returns the row of a line that must have this many digits; raises the line's first fault."""
    for at, character in enumerate(content):
        if character not in DIGITS or at >= width:
            raise TextFault(line, at + 1)
    if not content or len(content) < width:
        raise TextFault(line, len(content) + 1)
    return [int(character) for character in content]


def parse_picture(text):
    """Returns the picture whose text it is."""
    lines = text.split("\n")
    # The first line tells the width of all, up to the greatest one.
    width = min(len(lines[0]), MOST_LINES)
    rows = []
    for line, content in enumerate(lines, start=1):
        if line > MOST_LINES:
            raise TextFault(line, 1)
        rows.append(read_row(content, line, width))
    return rows


def compare_pictures(first, second):
    """Returns the tuples (column, row, a, b) of unlike pixels, or None for pictures of unlike sizes."""
    if len(first) != len(second) or len(first[0]) != len(second[0]):
        return None
    return [
        (column, row, a, b)
        for row, (upper, lower) in enumerate(zip(first, second))
        for column, (a, b) in enumerate(zip(upper, lower)) if a != b
    ]
