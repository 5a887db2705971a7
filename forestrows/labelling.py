"""How the labels of key rows are shared out."""

from forestrows.labels import first_labels


def labelled_rows(forest, fixed):
    """Right key rows of a forest, in preorder; `fixed` has labels that some nodes have, by their names."""
    made = {None: b""}
    for parent in [None] + forest.names():
        siblings = forest.roots() if parent is None else forest.children_of(parent)
        for name, label in zip(siblings, _labels_of(siblings, fixed)):
            made[name] = made[parent] + label
    return [(name, value, made[name]) for name, value, _ in forest.rows]


def _labels_of(siblings, fixed):
    """Ascending labels of siblings: the fixed ones, and between them the first ones that there are."""
    labels = []
    low = None
    free = 0
    for name in siblings + [None]:
        high = fixed.get(name)
        if name is not None and high is None:
            free += 1
        else:
            labels.extend(first_labels(low, high, free))
            labels.append(high)
            low = high
            free = 0
    # The last one belongs to the place behind all siblings.
    return labels[:-1]
