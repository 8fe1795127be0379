"""What the tests share."""

import inspect
import unittest

from turnsandkeys.errors import HouseError


def laid_open(thing):
    """A thing with all that it holds, as values that can be compared."""
    if isinstance(thing, (list, tuple)):
        return (type(thing), [laid_open(part) for part in thing])
    if isinstance(thing, dict):
        return (dict, [(laid_open(key), laid_open(part)) for key, part in thing.items()])
    if type(thing).__module__.startswith("turnsandkeys"):
        return (type(thing), laid_open(vars(thing)))
    return thing


class Case(unittest.TestCase):
    """A test case that can look closely at the errors of the program."""

    def fails(self, error, told, call, *args, **named):
        """The call raises exactly this error, with exactly these attributes."""
        with self.assertRaises(HouseError) as caught:
            call(*args, **named)
        self.assertIs(type(caught.exception), error)
        self.assertEqual(vars(caught.exception), told)
        return caught.exception

    def is_new_list(self, call):
        """The call returns a new list each time; changing one changes nothing else."""
        first = call()
        kept = list(first)
        self.assertIs(type(first), list)
        first.append("changed")
        second = call()
        self.assertEqual(second, kept)
        self.assertIsNot(first, second)

    def keeps_arguments(self, call, *args, **named):
        """The call changes nothing that it is passed; returns what the call returns."""
        before = laid_open([args, named])
        found = call(*args, **named)
        self.assertEqual(laid_open([args, named]), before)
        return found

    def has_parameters(self, call, *expected):
        """The parameters are as written: `name`, `name=default`, `*`, `*names`."""
        found = []
        starred = False
        for parameter in inspect.signature(call).parameters.values():
            if parameter.kind is parameter.VAR_POSITIONAL:
                found.append(f"*{parameter.name}")
                starred = True
                continue
            self.assertIn(parameter.kind, (parameter.POSITIONAL_OR_KEYWORD, parameter.KEYWORD_ONLY))
            if parameter.kind is parameter.KEYWORD_ONLY and not starred:
                found.append("*")
                starred = True
            if parameter.default is parameter.empty:
                found.append(parameter.name)
            else:
                found.append(f"{parameter.name}={parameter.default!r}")
        self.assertEqual(found, list(expected))
