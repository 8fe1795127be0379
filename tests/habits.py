"""Habits read and followed as the document says them, from their texts alone."""

from turnsandkeys.habits import Habit

PLAIN = ["long", "dear", "safe"]


def some_text(chance, members, most=4):
    parts = []
    for _ in range(chance.randint(0, most)):
        kind = chance.choice([*PLAIN, "over", "wait", "not"])
        if kind == "not":
            kind = f"not {chance.choice([*members, 'nobody'])}"
        elif kind not in PLAIN:
            kind = f"{kind} {chance.randint(0, 3)}"
        parts.append(kind)
    return ", ".join(parts)


def some_habit(chance, members, most=4):
    return Habit.read(some_text(chance, members, most))


def move_by_hand(text, house, standing):
    """The move of the habit with this text."""
    page, rule, keeper, passes = standing
    ruling = house.rule(rule)
    bids = dict(house.book.page(page).bids)
    left = [member for member in house.members if member in bids and member not in ruling.barred]
    if keeper != "" or ruling.KIND == "bid" or not left:
        return ""
    many = dict(zip(house.members, passes))
    for part in text.split(", ") if text else []:
        if part == "long":
            left = [member for member in left if all(many[member] >= many[other] for other in left)]
        elif part == "dear":
            left = [member for member in left if all(bids[member] >= bids[other] for other in left)]
        elif part == "safe":
            tolls = {member: ruling.barred_toll(member) for member in left}
            great = {member: 10 ** 40 if toll is None else toll for member, toll in tolls.items()}
            left = [member for member in left if great[member] == max(great.values())]
        elif part.startswith("over "):
            left = [member for member in left if many[member] >= int(part[5:])] or left
        elif part.startswith("not "):
            left = [member for member in left if member != part[4:]] or left
        elif not any(many[member] >= int(part[5:]) for member in left):
            return ""
    return left[0]
