"""What holds for every function: kinds of arguments, order of the checks, nothing changed, results new."""

import copy
import unittest

from neverbrush.errors import Unfit
from tests import calls, later_calls
from tests.made import ODD_THINGS, deep, deep_list, listed, listed_below


CALLS = calls.CALLS + later_calls.CALLS
THINGS = calls.THINGS + later_calls.THINGS
TEXTS = calls.TEXTS + later_calls.TEXTS
WRONG = calls.WRONG | later_calls.WRONG

GOOD_ODD_THINGS = (("is_stretch", (0, "")), ("is_some_bag", ()), ("is_lot", ()), ("is_closed", ()), ("is_fitting", ()))


def values(arguments):
    return [value for _, _, value in arguments]


def kinds(value):
    """value with all kinds told, so that 1 and True, lists and tuples are unlike."""
    if isinstance(value, (list, tuple)):
        return (type(value).__name__, [kinds(own) for own in value])
    return (type(value).__name__, value)


def spoil(value):
    """Changes all lists in value."""
    if isinstance(value, list):
        for own in value:
            spoil(own)
        value.append("spoiled")
        value.reverse()
    elif isinstance(value, tuple):
        for own in value:
            spoil(own)


class GoodCalls(unittest.TestCase):
    def test_by_place_and_by_name(self):
        for function, arguments, _ in CALLS:
            with self.subTest(function.__name__):
                by_place = function(*values(arguments))
                names = {name: value for name, _, value in arguments}
                self.assertEqual(kinds(function(**names)), kinds(by_place))
                backward = dict(reversed(list(names.items())))
                self.assertEqual(kinds(function(**backward)), kinds(by_place))
        for function, names in TEXTS:
            with self.subTest(function.__name__):
                self.assertEqual(kinds(function(*names.values())), kinds(function(**names)))

    def test_things_by_place_and_by_name(self):
        for function, arguments, thing in THINGS:
            with self.subTest(function.__name__):
                self.assertIs(function(*values(arguments), thing), True)
                self.assertIs(function(**{name: value for name, _, value in arguments}, thing=thing), True)

    def test_lists_for_tuples_at_each_depth(self):
        for function, arguments, _ in CALLS:
            good = values(arguments)
            wanted = kinds(function(*good))
            self.assertEqual(kinds(function(*listed(good))), wanted)
            for k in range(len(good)):
                for depth in range(7):
                    with self.subTest(function.__name__, number=k, depth=depth):
                        own = good[:k] + [listed_below(good[k], depth)] + good[k + 1:]
                        self.assertEqual(kinds(function(*own)), wanted)
                with self.subTest(function.__name__, number=k):
                    self.assertEqual(kinds(function(*(good[:k] + [listed(good[k])] + good[k + 1:]))), wanted)

    def test_lists_for_tuples_ahead_of_things(self):
        for function, arguments, thing in THINGS:
            with self.subTest(function.__name__):
                self.assertIs(function(*listed(values(arguments)), thing), True)

    def test_arguments_are_left_as_they_were(self):
        for function, arguments, _ in CALLS:
            with self.subTest(function.__name__):
                own = listed(values(arguments))
                kept = copy.deepcopy(own)
                function(*own)
                self.assertEqual(kinds(own), kinds(kept))
        for function, arguments, thing in THINGS:
            with self.subTest(function.__name__):
                own = listed(values(arguments)) + [listed(thing)]
                kept = copy.deepcopy(own)
                function(*own)
                self.assertEqual(kinds(own), kinds(kept))

    def test_same_call_same_result_and_lists_new(self):
        for function, arguments, _ in CALLS:
            with self.subTest(function.__name__):
                first = function(*values(arguments))
                kept = copy.deepcopy(first)
                spoil(first)
                self.assertEqual(kinds(function(*values(arguments))), kinds(kept))

    def test_no_list_of_an_argument_is_returned(self):
        for function, arguments, _ in CALLS:
            with self.subTest(function.__name__):
                own = listed(values(arguments))
                found = function(*own)
                kept = copy.deepcopy(found)
                spoil(own)
                self.assertEqual(kinds(found), kinds(kept))


class WrongCalls(unittest.TestCase):
    def unfit(self, function, own):
        with self.assertRaises(Unfit) as caught:
            function(*own)
        self.assertEqual(vars(caught.exception), {})

    def test_each_argument_wrong(self):
        for function, arguments, _ in CALLS:
            for k, (name, kind, _) in enumerate(arguments):
                for wrong in WRONG[kind]:
                    with self.subTest(function.__name__, name=name, wrong=wrong):
                        own = values(arguments)
                        own[k] = wrong
                        self.unfit(function, own)
                        own[k] = listed(wrong)
                        self.unfit(function, own)

    def test_wrong_ahead_of_later_errors(self):
        for function, arguments, late in CALLS:
            for k, (name, kind, _) in enumerate(arguments):
                for wrong in WRONG[kind][:6]:
                    with self.subTest(function.__name__, name=name, wrong=wrong):
                        own = [late.get(other, value) for other, _, value in arguments]
                        own[k] = wrong
                        self.unfit(function, own)

    def test_later_errors_are_others(self):
        for function, arguments, late in CALLS:
            for name in late:
                with self.subTest(function.__name__, name=name):
                    own = [late[name] if name == other else value for other, _, value in arguments]
                    with self.assertRaises((LookupError, ValueError)) as caught:
                        function(*own)
                    self.assertNotIsInstance(caught.exception, Unfit)

    def test_two_arguments_wrong(self):
        for function, arguments, _ in CALLS:
            for k in range(len(arguments)):
                for n in range(k):
                    for wrong, more in zip(WRONG[arguments[k][1]], WRONG[arguments[n][1]]):
                        with self.subTest(function.__name__, wrong=wrong, more=more):
                            own = values(arguments)
                            own[k], own[n] = wrong, more
                            self.unfit(function, own)

    def test_deeply_nested_and_long_arguments(self):
        for function, arguments, _ in CALLS:
            for k, (name, _, _) in enumerate(arguments):
                for wrong in (deep(0, 20), deep_list(0, 300), [[]] * 10000, ((0, 0),) * 5000, "x" * 100000):
                    with self.subTest(function.__name__, name=name):
                        own = values(arguments)
                        own[k] = wrong
                        self.unfit(function, own)


class OddThings(unittest.TestCase):
    def test_any_odd_thing_is_told_true_or_false(self):
        for function, arguments, good in THINGS:
            for thing in ODD_THINGS + (listed(good), good + (0,), (good,), [good]):
                is_good = (function.__name__, thing) in GOOD_ODD_THINGS
                with self.subTest(function.__name__, thing=str(thing)[:80]):
                    self.assertIs(function(*values(arguments), thing), is_good)

    def test_good_things_with_one_list_or_bool(self):
        for function, arguments, good in THINGS:
            for depth in range(4):
                thing = listed_below(good, depth)
                if kinds(thing) != kinds(good):
                    with self.subTest(function.__name__, depth=depth):
                        self.assertIs(function(*values(arguments), thing), False)
            for thing in with_bools(good):
                with self.subTest(function.__name__, thing=thing):
                    self.assertIs(function(*values(arguments), thing), False)

    def test_errors_of_other_arguments_whatever_the_thing_is(self):
        for function, arguments, good in THINGS:
            for k, (name, kind, _) in enumerate(arguments):
                for wrong in WRONG[kind]:
                    for thing in (good, None, deep_list(0, 20), [[]] * 10):
                        with self.subTest(function.__name__, name=name, wrong=wrong):
                            own = values(arguments)
                            own[k] = wrong
                            with self.assertRaises(Unfit):
                                function(*own, thing)


def with_bools(value):
    """All values that come from value if one 0 or 1 in it is a bool."""
    if isinstance(value, tuple):
        return [value[:k] + (own,) + value[k + 1:] for k in range(len(value)) for own in with_bools(value[k])]
    if value == 0 or value == 1:
        return [bool(value)]
    return []


if __name__ == "__main__":
    unittest.main()
