"""Places and steps between them, as triples of integers."""


def shifted(place, axis, by):
    """The place that lies so far from this one along the axis."""
    return place[:axis] + (place[axis] + by,) + place[axis + 1:]


def scaled(place, by):
    """The place with all coordinates multiplied."""
    x, y, z = place
    return (x * by, y * by, z * by)


def step(start, end):
    """The vector from one place to another."""
    return (end[0] - start[0], end[1] - start[1], end[2] - start[2])


def crossed(one, other):
    """The vector product."""
    a, b, c = one
    d, e, f = other
    return (b * f - c * e, c * d - a * f, a * e - b * d)


def dotted(one, other):
    """The scalar product."""
    return one[0] * other[0] + one[1] * other[1] + one[2] * other[2]


def spanned(one, other, third):
    """The volume of the box that three vectors span, with a sign for their sense."""
    return dotted(crossed(one, other), third)
