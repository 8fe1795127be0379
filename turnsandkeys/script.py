"""Scripts: texts whose lines are done at a desk."""

from turnsandkeys.errors import BadCommand, HouseError
from turnsandkeys.names import is_name, read_number

# The commands that are steps of the desk; the others only ask.
STEPS = ("lend", "do", "finish", "put", "amend")
PARTS = ("limit", "deposit", "fee", "start")


def run_script(desk, text):
    """Do the lines of the text as one step of the desk; returns the list of the answers."""
    answers = []
    stepped = False
    # Behind the trial the desk is as before, also if a line raises an error.
    with desk.trial():
        for line, row in enumerate(text.split("\n"), start=1):
            if row != "":
                words = row.split(" ")
                answers.extend(_run_line(desk, line, words))
                stepped = stepped or words[0] in STEPS
        scene = desk.present()
    if stepped:
        desk.step_to(scene)
    return answers


def _run_line(desk, line, words):
    """Do a line; returns the list of its answers."""
    kind = words[0]
    if kind not in READERS:
        raise BadCommand(line)
    reader = READERS[kind]
    told = reader(line, words[1:])
    try:
        return _answers(desk, kind, told)
    except HouseError as why:
        raise BadCommand(line) from why


def _answers(desk, kind, told):
    """What the desk answers to a line that is right."""
    action = ACTIONS[kind]
    return action(desk, *told)


def _check_size(line, words, size):
    if len(words) != size:
        raise BadCommand(line)


def _name(line, word):
    if not is_name(word):
        raise BadCommand(line)
    return word


def _who(line, word):
    return "" if word == "-" else _name(line, word)


def _takers(line, word):
    return () if word == "-" else tuple([_name(line, name) for name in word.split(">")])


def _number(line, word):
    number = read_number(word)
    if number is None:
        raise BadCommand(line)
    return number


# The readers of lines: what stands behind the first word, as the list of what the action is passed.


def _read_nothing(line, words):
    _check_size(line, words, 0)
    return []


def _read_lend(line, words):
    _check_size(line, words, 1)
    return [_who(line, words[0])]


def _read_do(line, words):
    _check_size(line, words, 4)
    takers, *others = words
    return [(_takers(line, takers), *[_who(line, word) for word in others])]


def _read_put(line, words):
    if not words:
        raise BadCommand(line)
    number, *options = words
    return [tuple([_name(line, option) for option in options]), _number(line, number)]


def _read_amend(line, words):
    _check_size(line, words, 3)
    rule, part, number = words
    if part not in PARTS:
        raise BadCommand(line)
    worth = None if part == "limit" and number == "none" else _number(line, number)
    return [_name(line, rule), part, worth]


# The actions of lines: what is done at the desk; each returns the list of the answers.


def _lend(desk, move):
    desk.lend(move)
    return []


def _do(desk, deed):
    desk.do(deed)
    return []


def _finish(desk):
    desk.finish()
    return []


def _put(desk, ballot, many):
    desk.put(ballot, many)
    return []


def _amend(desk, rule, part, number):
    parts = {part: number}
    desk.amend(rule, **parts)
    return []


def _left(desk):
    return ["never" if desk.left is None else str(desk.left)]


def _advice(desk):
    return [_told(desk.advice())]


def _threat(desk):
    found = desk.threat()
    if found is None:
        return ["none"]
    (takers, holder, rule, page), total = found
    words = [_told(">".join(takers)), _told(holder), _told(rule), _told(page)]
    return [" ".join([*words, "for", str(total)])]


def _where(desk):
    if desk.standing_now is None:
        return ["over"]
    page, rule, keeper, passes = desk.standing_now
    return [" ".join([page, rule, _told(keeper), *[str(number) for number in passes]])]


def _told(word):
    return "-" if word == "" else word


READERS = {
    "lend": _read_lend,
    "do": _read_do,
    "finish": _read_nothing,
    "put": _read_put,
    "amend": _read_amend,
    "left": _read_nothing,
    "advice": _read_nothing,
    "threat": _read_nothing,
    "where": _read_nothing,
}

ACTIONS = {
    "lend": _lend,
    "do": _do,
    "finish": _finish,
    "put": _put,
    "amend": _amend,
    "left": _left,
    "advice": _advice,
    "threat": _threat,
    "where": _where,
}
