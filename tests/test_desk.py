import random

from dearestshelf import desk as module
from dearestshelf.choices import AtMost, Choice
from dearestshelf.desk import Desk
from dearestshelf.errors import BadName, BadNumber, KnownName, NothingToUndo, TooMany, UnknownName
from dearestshelf.weights import Weighted
from tests.helper import ShelfTest, fraction

LARGE = 10**18 - 1
NAMES = "tea jam cup pot milk honey".split()
NO_NAMES = ["", "Tea", "TEA", "te a", " tea", "tea ", "tea\n", "\n", "tea1", "1", "te-a", "a_b", "{", "~"]
NO_NAMES = NO_NAMES + ["abcdefghijklm", "a" * 2000]


def small_desk():
    desk = Desk(4)
    desk.put("tea", 10, 2)
    desk.put("jam", 3, 1)
    desk.put("cup", 6, 3)
    return desk


def full_desk():
    desk = Desk(1)
    for number in range(24):
        desk.put("abcdefghijklmnopqrstuvwxyz"[number] * 3, number, number + 1)
    return desk


def state(desk):
    """Return all that can be asked of a desk."""
    things = [(name, desk[name], desk.weight_of(name)) for name in desk]
    return things, desk.aside_weight, desk.limit, desk.best_lot, str(desk.best_worth)


class DeskTest(ShelfTest):
    def assert_desk(self, desk, things, aside, limit):
        """Check all that can be asked of a desk; things are triples (name, price, weight)."""
        self.assertEqual(len(desk), len(things))
        self.assertEqual(list(desk), [name for name, _, _ in things])
        for name, price, weight in things:
            self.assertEqual((desk[name], desk.weight_of(name)), (price, weight))
            self.assertIs(name in desk, True)
        for name in ["nothere", *NO_NAMES]:
            self.assertIs(name in desk, False)
        self.assertEqual((desk.aside_weight, desk.limit), (aside, limit))
        rule = Weighted([weight for _, _, weight in things], aside)
        prices = [price for _, price, _ in things]
        choice = Choice(rule, prices) if limit is None else AtMost(rule, prices, most=limit)
        lot, worth = choice.best()
        self.assertIs(type(desk.best_lot), list)
        self.assertEqual(desk.best_lot, [things[thing][0] for thing in lot])
        self.assertEqual(fraction(desk.best_worth), fraction(worth))

    def assert_refused(self, desk, told, fields, deed, *values, **named):
        """Check a refused deed: the desk stays as it was, also for undo."""
        before = state(desk)
        self.assert_raises(told, fields, deed, *values, **named)
        self.assertEqual(state(desk), before)

    def assert_wrong_number(self, desk, what, deed, *values, **named):
        self.assert_refused(desk, BadNumber, {"what": what, "at": None}, deed, *values, **named)

    def assert_undone(self, desk, *states):
        """Check that undo comes back to these states, the last one first, and then to nothing."""
        for told in states[::-1]:
            self.assertIsNone(desk.undo())
            self.assertEqual(state(desk), told)
        self.assert_refused(desk, NothingToUndo, {}, desk.undo)


class InterfaceTest(DeskTest):
    def test_interface(self):
        self.assert_interface(module, {"Desk": "(aside)"})
        signatures = {
            "put": "(self, name, price, weight)",
            "drop": "(self, name)",
            "set_price": "(self, name, price)",
            "set_weight": "(self, name, weight)",
            "reprice": "(self, **prices)",
            "set_aside": "(self, aside)",
            "set_limit": "(self, limit)",
            "undo": "(self)",
            "weight_of": "(self, name)",
            "__len__": "(self)",
            "__iter__": "(self)",
        }
        self.assert_interface(Desk, signatures)
        self.assertLessEqual({"__getitem__", "__setitem__", "__contains__"}, set(vars(Desk)))
        for name in ("limit", "aside_weight", "best_lot", "best_worth"):
            self.assertIs(type(vars(Desk)[name]), property)

    def test_a_new_desk(self):
        for aside in (1, 4, LARGE):
            self.assert_desk(Desk(aside), [], aside, None)
            self.assert_refused(Desk(aside), NothingToUndo, {}, Desk(aside).undo)
        for aside in (0, -1, -LARGE):
            self.assert_number("aside", None, Desk, aside)

    def test_by_hand(self):
        desk = small_desk()
        self.assertEqual((desk.best_lot, str(desk.best_worth)), (["tea", "cup"], "38/9"))
        desk.limit = 1
        self.assertEqual((desk.best_lot, str(desk.best_worth)), (["tea"], "10/3"))
        desk["jam"] = 40
        self.assertEqual((desk.best_lot, str(desk.best_worth)), (["jam"], "8"))
        desk.limit = None
        self.assertEqual((desk.best_lot, str(desk.best_worth)), (["tea", "jam"], "60/7"))

    def test_what_was_returned_may_be_changed(self):
        desk = small_desk()
        desk.best_lot.clear()
        desk.best_worth.top = 1000
        desk.best_worth.bottom = 7
        self.assertEqual((desk.best_lot, str(desk.best_worth)), (["tea", "cup"], "38/9"))

    def test_desks_are_apart(self):
        first, second = small_desk(), small_desk()
        before = state(second)
        first.drop("jam")
        first.undo()
        first["tea"] = 0
        self.assertEqual(state(second), before)

    def test_names_in_a_loop_over_a_desk_that_changes(self):
        desk = small_desk()
        for name in desk:
            desk.drop(name)
        self.assert_desk(desk, [], 4, None)


class DeedsTest(DeskTest):
    def test_each_deed(self):
        desk = small_desk()
        things = [("tea", 10, 2), ("jam", 3, 1), ("cup", 6, 3)]
        self.assert_desk(desk, things, 4, None)
        self.assertIsNone(desk.put("pot", 0, 9))
        self.assert_desk(desk, [*things, ("pot", 0, 9)], 4, None)
        self.assertIsNone(desk.set_price("jam", 5))
        self.assertIsNone(desk.set_weight("tea", LARGE))
        self.assert_desk(desk, [("tea", 10, LARGE), ("jam", 5, 1), ("cup", 6, 3), ("pot", 0, 9)], 4, None)
        self.assertIsNone(desk.drop("jam"))
        self.assert_desk(desk, [("tea", 10, LARGE), ("cup", 6, 3), ("pot", 0, 9)], 4, None)
        self.assertIsNone(desk.put("jam", LARGE, 1))
        things = [("tea", 10, LARGE), ("cup", 6, 3), ("pot", 0, 9), ("jam", LARGE, 1)]
        self.assert_desk(desk, things, 4, None)
        self.assertIsNone(desk.set_aside(7))
        self.assert_desk(desk, things, 7, None)
        self.assertIsNone(desk.reprice(pot=8, tea=1))
        things = [("tea", 1, LARGE), ("cup", 6, 3), ("pot", 8, 9), ("jam", LARGE, 1)]
        self.assert_desk(desk, things, 7, None)
        desk["cup"] = 0
        things[1] = ("cup", 0, 3)
        self.assert_desk(desk, things, 7, None)

    def test_limits(self):
        things = [("tea", 10, 2), ("jam", 3, 1), ("cup", 6, 3)]
        for limit in (0, 1, 2, 3, 4, LARGE, None):
            desk = small_desk()
            self.assertIsNone(desk.set_limit(limit))
            self.assert_desk(desk, things, 4, limit)
            desk.set_limit(1)
            desk.limit = limit
            self.assert_desk(desk, things, 4, limit)
            desk.put("pot", 50, 1)
            self.assert_desk(desk, [*things, ("pot", 50, 1)], 4, limit)
            desk = Desk(2)
            desk.limit = limit
            self.assert_desk(desk, [], 2, limit)

    def test_equal_gains(self):
        desk = Desk(1)
        for name in ("b", "a", "c"):
            desk.put(name, 5, 2)
        desk.limit = 2
        self.assertEqual(desk.best_lot, ["b", "a"])
        desk.drop("b")
        desk.limit = 1
        self.assertEqual(desk.best_lot, ["a"])
        desk.put("b", 5, 2)
        self.assertEqual(desk.best_lot, ["a"])
        desk.reprice(a=0, b=0, c=0)
        self.assertEqual((desk.best_lot, str(desk.best_worth)), ([], "0"))

    def test_names(self):
        desk = Desk(1)
        for name in ("a", "z", "abcdefghijkl", "zzzzzzzzzzzz", "self", "name", "nothing", "prices"):
            desk.put(name, 1, 1)
            self.assertIn(name, desk)
        desk.reprice(name=4, prices=5, nothing=6)
        self.assertEqual([desk[name] for name in desk], [1, 1, 1, 1, 1, 4, 6, 5])
        desk["self"] = 9
        self.assertEqual(desk["self"], 9)

    def test_a_full_desk(self):
        desk = full_desk()
        things = [(name, desk[name], desk.weight_of(name)) for name in desk]
        self.assertEqual(len(things), 24)
        self.assert_desk(desk, things, 1, None)
        self.assert_refused(desk, TooMany, {"many": 25, "most": 24}, desk.put, "tea", 1, 1)
        self.assert_refused(desk, KnownName, {"name": "aaa"}, desk.put, "aaa", 1, 1)
        desk.drop("ccc")
        desk.put("tea", 7, 5)
        self.assert_desk(desk, [*things[:2], *things[3:], ("tea", 7, 5)], 1, None)

    def test_most_numbers(self):
        desk = Desk(LARGE)
        things = []
        for at in range(24):
            things.append(("abcdefghijklmnopqrstuvwxyz"[at], LARGE - 10**17 * (at % 5), LARGE - at))
            desk.put(*things[-1])
        for limit in (None, 3, 24):
            desk.limit = limit
            self.assert_desk(desk, things, LARGE, limit)


class ChecksTest(DeskTest):
    def test_put(self):
        desk = small_desk()
        for name in NO_NAMES:
            for price, weight in [(1, 1), (-1, 1), (1, 0), (-1, 0)]:
                self.assert_refused(desk, BadName, {"name": name}, desk.put, name, price, weight)
        for price, weight in [(1, 1), (-1, 1), (1, 0), (-1, 0)]:
            self.assert_refused(desk, KnownName, {"name": "jam"}, desk.put, "jam", price, weight)
        for price in (-1, -LARGE):
            for weight in (1, 0, -1):
                self.assert_wrong_number(desk, "price", desk.put, "pot", price, weight)
        for weight in (0, -1, -LARGE):
            self.assert_wrong_number(desk, "weight", desk.put, "pot", 0, weight)

    def test_put_on_a_full_desk(self):
        desk = full_desk()
        self.assert_refused(desk, BadName, {"name": "Tea"}, desk.put, "Tea", 1, 1)
        self.assert_refused(desk, KnownName, {"name": "xxx"}, desk.put, "xxx", 1, 1)
        self.assert_wrong_number(desk, "price", desk.put, "tea", -1, 1)
        self.assert_wrong_number(desk, "weight", desk.put, "tea", 1, 0)
        self.assert_refused(desk, TooMany, {"many": 25, "most": 24}, desk.put, "tea", 1, 1)

    def test_unknown_names(self):
        desk = small_desk()
        for name in ["pot", "te", "teaa", *NO_NAMES]:
            fields = {"name": name}
            self.assert_refused(desk, UnknownName, fields, desk.drop, name)
            self.assert_refused(desk, UnknownName, fields, desk.weight_of, name)
            self.assert_refused(desk, UnknownName, fields, lambda: desk[name])
            for number in (1, 0, -1):
                self.assert_refused(desk, UnknownName, fields, desk.set_price, name, number)
                self.assert_refused(desk, UnknownName, fields, desk.set_weight, name, number)
                self.assert_refused(desk, UnknownName, fields, desk.reprice, **{name: number})
                self.assert_refused(desk, UnknownName, fields, desk.__setitem__, name, number)
        desk.drop("tea")
        self.assert_refused(desk, UnknownName, {"name": "tea"}, desk.drop, "tea")
        self.assertNotIn("tea", desk)

    def test_numbers(self):
        desk = small_desk()
        for number in (-1, -LARGE):
            self.assert_wrong_number(desk, "price", desk.set_price, "tea", number)
            self.assert_wrong_number(desk, "price", desk.reprice, tea=number)
            self.assert_wrong_number(desk, "price", desk.__setitem__, "tea", number)
            self.assert_wrong_number(desk, "limit", desk.set_limit, number)
            self.assert_wrong_number(desk, "limit", setattr, desk, "limit", number)
        for number in (0, -1, -LARGE):
            self.assert_wrong_number(desk, "weight", desk.set_weight, "tea", number)
            self.assert_wrong_number(desk, "aside", desk.set_aside, number)

    def test_reprice(self):
        desk = small_desk()
        # The prices are checked in their order, and if one is refused, none is set.
        self.assert_wrong_number(desk, "price", desk.reprice, tea=1, jam=-1, pot=1)
        self.assert_refused(desk, UnknownName, {"name": "pot"}, desk.reprice, tea=1, pot=1, jam=-1)
        self.assert_refused(desk, UnknownName, {"name": "pot"}, desk.reprice, tea=1, pot=-1)
        self.assert_wrong_number(desk, "price", desk.reprice, tea=1, jam=2, cup=-3)
        desk.reprice(cup=1, tea=2, jam=3)
        self.assert_desk(desk, [("tea", 2, 2), ("jam", 3, 1), ("cup", 1, 3)], 4, None)
        desk.reprice()
        self.assert_desk(desk, [("tea", 2, 2), ("jam", 3, 1), ("cup", 1, 3)], 4, None)


class UndoTest(DeskTest):
    def deeds(self, desk):
        return [
            lambda: desk.put("pot", 9, 1),
            lambda: desk.drop("jam"),
            lambda: desk.set_price("tea", 1),
            lambda: desk.set_weight("tea", 8),
            lambda: desk.reprice(tea=20, cup=0),
            lambda: desk.reprice(),
            lambda: desk.reprice(tea=20),
            lambda: desk.set_aside(50),
            lambda: desk.set_aside(50),
            lambda: desk.set_limit(1),
            lambda: desk.set_limit(None),
            lambda: desk.set_limit(None),
            lambda: desk.__setitem__("cup", 7),
            lambda: desk.__setitem__("cup", 7),
            lambda: setattr(desk, "limit", 2),
        ]

    def test_after_each_deed(self):
        for at in range(len(self.deeds(None))):
            desk = small_desk()
            before = state(desk)
            self.deeds(desk)[at]()
            self.assertIsNone(desk.undo())
            self.assertEqual(state(desk), before)
            # The three deeds of the small desk are left to undo.
            for _ in range(3):
                desk.undo()
            self.assert_desk(desk, [], 4, None)
            self.assert_refused(desk, NothingToUndo, {}, desk.undo)

    def test_after_all_deeds(self):
        desk = Desk(4)
        states = [state(desk)]
        for name, price, weight in [("tea", 10, 2), ("jam", 3, 1), ("cup", 6, 3)]:
            desk.put(name, price, weight)
            states.append(state(desk))
        for deed in self.deeds(desk):
            deed()
            states.append(state(desk))
        self.assert_undone(desk, *states[:-1])

    def test_refused_deeds_are_none(self):
        desk = small_desk()
        before = state(desk)
        desk.set_price("tea", 4)
        self.assert_refused(desk, KnownName, {"name": "tea"}, desk.put, "tea", 1, 1)
        self.assert_refused(desk, BadName, {"name": "A"}, desk.put, "A", 1, 1)
        self.assert_refused(desk, UnknownName, {"name": "pot"}, desk.drop, "pot")
        self.assert_wrong_number(desk, "price", desk.reprice, tea=1, jam=-1)
        self.assert_wrong_number(desk, "weight", desk.set_weight, "tea", 0)
        self.assert_wrong_number(desk, "aside", desk.set_aside, 0)
        self.assert_wrong_number(desk, "limit", desk.set_limit, -1)
        self.assert_refused(desk, UnknownName, {"name": "pot"}, desk.weight_of, "pot")
        desk.undo()
        self.assertEqual(state(desk), before)

    def test_undo_is_no_deed(self):
        desk = Desk(1)
        desk.set_aside(2)
        desk.set_aside(3)
        desk.undo()
        self.assertEqual(desk.aside_weight, 2)
        desk.undo()
        self.assertEqual(desk.aside_weight, 1)
        self.assert_refused(desk, NothingToUndo, {}, desk.undo)
        self.assert_refused(desk, NothingToUndo, {}, desk.undo)
        desk.set_aside(9)
        desk.undo()
        self.assertEqual(desk.aside_weight, 1)

    def test_a_dropped_thing_comes_back_to_its_place(self):
        desk = small_desk()
        desk.drop("tea")
        desk.put("tea", 1, 1)
        self.assertEqual(list(desk), ["jam", "cup", "tea"])
        desk.undo()
        desk.undo()
        self.assert_desk(desk, [("tea", 10, 2), ("jam", 3, 1), ("cup", 6, 3)], 4, None)

    def test_deeds_by_chance(self):
        told = random.Random(32)
        for _ in range(12):
            desk = Desk(3)
            things, aside, limit, past = [], 3, None, []
            for _ in range(120):
                before = (list(things), aside, limit)
                kind, name = told.choice("put drop price weight aside limit undo undo".split()), told.choice(NAMES)
                at = next((at for at, thing in enumerate(things) if thing[0] == name), None)
                price, weight = told.randint(0, 9), told.randint(1, 9)
                if kind == "undo":
                    if past:
                        desk.undo()
                        things, aside, limit = past.pop()
                    else:
                        self.assert_refused(desk, NothingToUndo, {}, desk.undo)
                elif kind == "aside":
                    aside = weight
                    desk.set_aside(aside)
                elif kind == "limit":
                    limit = told.choice([None, 0, 1, 2, 9])
                    desk.limit = limit
                elif kind == "put" and at is None:
                    things = [*things, (name, price, weight)]
                    desk.put(name, price, weight)
                elif kind == "put":
                    self.assert_refused(desk, KnownName, {"name": name}, desk.put, name, price, weight)
                elif at is None:
                    self.assert_refused(desk, UnknownName, {"name": name}, desk.drop, name)
                elif kind == "drop":
                    things = things[:at] + things[at + 1 :]
                    desk.drop(name)
                elif kind == "price":
                    things = [*things[:at], (name, price, things[at][2]), *things[at + 1 :]]
                    desk[name] = price
                else:
                    things = [*things[:at], (name, things[at][1], weight), *things[at + 1 :]]
                    desk.set_weight(name, weight)
                refused = at is not None if kind == "put" else at is None
                if kind in ("aside", "limit") or (kind != "undo" and not refused):
                    past.append(before)
                self.assert_desk(desk, things, aside, limit)
