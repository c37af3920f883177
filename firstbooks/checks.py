"""Checks: the homes that they make, also where no house has them."""

from firstbooks.helper import crosswise


def homes_of(checks, powers):
    """Tell the homes of the powers 0, 1, .., so many, that checks make."""
    # A home has a mark just where the mark's check has the power, so homes are checks read crosswise.
    return crosswise(checks, powers)
