"""Prices: integers from 0 on, or None, which is greater than every integer."""


def plus(price, other):
    """The sum of two prices."""
    if price is None or other is None:
        return None
    return price + other


def least(prices):
    """The least price of a list, None if it is empty."""
    return min([price for price in prices if price is not None], default=None)
