"""Judging tables and plans, whoever made them."""

from turnsandkeys.deeds import outcome, outcomes
from turnsandkeys.errors import BadPlan, BadTable, NoDeed
from turnsandkeys.prices import least, plus, reaches
from turnsandkeys.standings import first_standings, is_standing, moves


def shown_by_table(house, rows):
    """The least price of the first standings, if the rows are a closed table."""
    prices = {}
    for place, (standing, move, price) in enumerate(rows):
        if standing in prices or not is_standing(house, standing):
            raise BadTable(place, "standing")
        if move not in moves(house, standing):
            raise BadTable(place, "move")
        if price is not None and price < 0:
            raise BadTable(place, "price")
        prices[standing] = price
    for place, (standing, move, _) in enumerate(rows):
        if not all([_holds(prices, standing, told) for told in outcomes(house, standing, move)]):
            raise BadTable(place, "deed")
    firsts = first_standings(house)
    if not all([first in prices for first in firsts]):
        raise BadTable(len(rows), "start")
    return least([prices[first] for first in firsts])


def _holds(prices, standing, told):
    """True if the deed of the outcome costs no less than the price of the table falls."""
    _, cost, fault, after = told
    if fault is not None:
        return reaches(cost, prices[standing])
    return after in prices and reaches(plus(cost, prices[after]), prices[standing])


def shown_by_plan(house, rows):
    """The least price of the first standings in the plan, if the rows are a falling plan."""
    marks = {}
    for place, (standing, price, rounds, answers) in enumerate(rows):
        if standing in marks or not is_standing(house, standing):
            raise BadPlan(place, "standing")
        if price < 0:
            raise BadPlan(place, "price")
        if [move for move, _ in answers] != moves(house, standing):
            raise BadPlan(place, "moves")
        marks[standing] = (price, rounds)
    for place, (standing, _, _, answers) in enumerate(rows):
        why = _wrong_answer(house, marks, standing, answers)
        if why != "":
            raise BadPlan(place, why)
    prices = [marks[first][0] for first in first_standings(house) if first in marks]
    if not prices:
        raise BadPlan(len(rows), "start")
    return least(prices)


def _wrong_answer(house, marks, standing, answers):
    """What is wrong with the first answer that does not fall, the empty string if all of them fall."""
    for move, deed in answers:
        try:
            price, fault, after = outcome(house, standing, move, deed)
        except NoDeed:
            return "deed"
        if not falls(marks, standing, price, fault, after):
            return "fall"
    return ""


def falls(marks, standing, cost, fault, after):
    """True if the outcome costs no more than the price falls, and the rounds fall, too.

    The marks are a dict with the price and the rounds of each standing that a plan can have.
    """
    price, rounds = marks[standing]
    if fault is not None:
        return cost <= price
    if after not in marks:
        return False
    price_after, rounds_after = marks[after]
    return rounds_after < rounds and cost + price_after <= price
