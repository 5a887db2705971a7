"""The numbers of the ends of a forest: where they stand, and how they are shared out."""


def ends_of(forest):
    """For each name the positions of the beginning and of the end of its subtree, in a walk around the forest."""
    found = {}
    for place, row in enumerate(forest.rows):
        # Of the nodes before, all have begun, and all but the ancestors have ended.
        begin = 2 * place - row[2]
        found[row[0]] = (begin, begin + 2 * forest.size_of(row[0]) - 1)
    return found


def laid_rows(forest, most):
    """The span rows of a forest whose ends are spread evenly below a bound."""
    count = 2 * len(forest)
    return _rows_with(forest, [(2 * k + 1) * most // (2 * count) for k in range(count)])


def spaced_rows(forest, kept, most):
    """Right span rows of a forest below a bound, among them those that are kept, given by their names."""
    ends = ends_of(forest)
    fixed = {}
    for name, row in kept.items():
        begin, end = ends[name]
        fixed[begin] = row[2] - begin
        fixed[end] = row[3] - end
    count = 2 * len(forest)
    shifts = _filled(fixed, count, most - count)
    return _rows_with(forest, [position + shift for position, shift in enumerate(shifts)])


def _filled(fixed, count, greatest):
    """Ascending shifts for all positions, evenly between those that are fixed, 0 and the greatest."""
    shifts = []
    for position in sorted(fixed) + [count]:
        low = shifts[-1] if shifts else 0
        high = fixed.get(position, greatest)
        free = position - len(shifts)
        shifts.extend([low + (high - low) * (k + 1) // (free + 1) for k in range(free)])
        shifts.append(high)
    # The last one belongs to the position behind all ends.
    return shifts[:-1]


def _rows_with(forest, numbers):
    """The span rows of a forest whose ends have these numbers, in their order."""
    ends = ends_of(forest)
    return [(name, value, numbers[ends[name][0]], numbers[ends[name][1]]) for name, value, level in forest.rows]
