"""Certificates for the tests."""

from forestrows.tables import Certificate


def changed(proof, kept=None, worths=None, heights=None):
    """A certificate like another one, with further entries; None takes an entry away."""
    fields = [dict(proof.worths), dict(proof.heights)]
    for field, more in zip(fields, (worths or {}, heights or {})):
        for key, number in more.items():
            if number is None:
                del field[key]
            else:
                field[key] = number
    return Certificate(proof.kept if kept is None else kept, *fields)
