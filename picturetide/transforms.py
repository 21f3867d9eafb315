"""Squares of integers, stepped into middles and differences without loss, and back."""

LEAST_SIZE = 2


def stepped(row):
    """The step on a row of an even number of integers: a middle of each pair, then each pair's difference."""
    middles = []
    differences = []
    for at in range(0, len(row), 2):
        difference = row[at] - row[at + 1]
        middles.append(row[at + 1] + difference // 2)
        differences.append(difference)
    return tuple(middles + differences)


def stepped_back(row):
    """The row of which this is the step."""
    half = len(row) // 2
    pairs = []
    for middle, difference in zip(row[:half], row[half:]):
        second = middle - difference // 2
        pairs.append(second + difference)
        pairs.append(second)
    return tuple(pairs)


def turned(rows):
    """The columns of these rows."""
    return tuple(zip(*rows))


def with_rows_changed(rows, size, change):
    """These rows with the first members of the first rows, as many as size tells, changed."""
    changed = [change(row[:size]) + row[size:] for row in rows[:size]]
    return tuple(changed) + rows[size:]


def with_columns_changed(rows, size, change):
    """These rows with the first members of the first columns, as many as size tells, changed."""
    return turned(with_rows_changed(turned(rows), size, change))


def forward(square):
    """The square with its rows, then its columns stepped, then those of its ever smaller upper left quarters."""
    rows = square
    size = len(square)
    while size >= LEAST_SIZE:
        rows = with_rows_changed(rows, size, stepped)
        rows = with_columns_changed(rows, size, stepped)
        size = size // 2
    return rows


def backward(square):
    """The square of which this is forward."""
    rows = square
    size = LEAST_SIZE
    while size <= len(square):
        rows = with_columns_changed(rows, size, stepped_back)
        rows = with_rows_changed(rows, size, stepped_back)
        size = 2 * size
    return rows
