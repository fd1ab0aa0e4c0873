"""Figures: numbers as texts, without signs and without a 0 ahead."""

FIGURES = "0123456789"


def figures_of(text, most):
    """The number that a text of at most so many figures tells; None for other texts, and with a 0 ahead."""
    # The length comes first: Python refuses to read numbers of thousands of figures.
    if not 1 <= len(text) <= most or not all([sign in FIGURES for sign in text]):
        return None
    return int(text) if text == "0" or text[0] != "0" else None
