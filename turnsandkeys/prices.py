"""Prices: integers from 0 on, or None, which is greater than every integer."""


def plus(price, other):
    """The sum of two prices."""
    if price is None or other is None:
        return None
    return price + other


def least(prices):
    """The least price of a list, None if it is empty."""
    return min([price for price in prices if price is not None], default=None)


def greatest(prices):
    """The greatest price of a list with at least one price."""
    return None if None in prices else max(prices)


def reaches(price, other):
    """True if the first price is at least the other one."""
    return price is None or (other is not None and price >= other)
