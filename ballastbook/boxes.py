"""Boxes: tuples (x1, y1, x2, y2, low, high) that hold places and heights."""

BOOK_EDGE = 999
TOP_HEIGHT = 5


def good_box(box):
    """Tell whether six numbers of whatever size are a box that a book takes."""
    x1, y1, x2, y2, low, high = box
    return (
        -BOOK_EDGE <= x1 <= x2 <= BOOK_EDGE
        and -BOOK_EDGE <= y1 <= y2 <= BOOK_EDGE
        and 0 <= low <= high <= TOP_HEIGHT
    )


def inside(box, x, y, height):
    """Tell whether the box holds the place at the height."""
    x1, y1, x2, y2, low, high = box
    return x1 <= x <= x2 and y1 <= y <= y2 and low <= height <= high


def shared(one, other):
    """The box that holds just what both hold, or None where they share nothing."""
    x1, y1 = max(one[0], other[0]), max(one[1], other[1])
    x2, y2 = min(one[2], other[2]), min(one[3], other[3])
    low, high = max(one[4], other[4]), min(one[5], other[5])
    if x1 > x2 or y1 > y2 or low > high:
        return None
    return (x1, y1, x2, y2, low, high)


def around(spots):
    """The least box that holds all of the spots (x, y, height), or None of none."""
    if not spots:
        return None
    xs = [x for x, y, height in spots]
    ys = [y for x, y, height in spots]
    heights = [height for x, y, height in spots]
    return (min(xs), min(ys), max(xs), max(ys), min(heights), max(heights))
