from dearestshelf import errors
from dearestshelf.back import weights_back
from dearestshelf.desk import Desk
from dearestshelf.learning import learned
from dearestshelf.needs import Closed
from dearestshelf.ratios import Ratio
from dearestshelf.rules import Listed, Rule, Wish
from dearestshelf.sales import SalesBook
from dearestshelf.script import run
from dearestshelf.tables import Tabled
from dearestshelf.weights import Weighted
from dearestshelf.wishes import lists_of
from tests.helper import LISTED_ERRORS, ShelfTest, fraction

FIELDS = {
    "ZeroBottom": [],
    "BadText": [],
    "BadLot": [],
    "NoBuyers": [],
    "NothingToUndo": [],
    "BadNumber": ["what", "at"],
    "TooMany": ["many", "most"],
    "BadWish": ["at"],
    "Unlike": ["at"],
    "BadTable": ["at"],
    "BadNeed": ["at"],
    "NotLists": ["lot", "thing", "amount"],
    "Unsold": ["thing"],
    "Crossed": ["ring"],
    "BadName": ["name"],
    "KnownName": ["name"],
    "UnknownName": ["name"],
    "BadLine": ["line"],
}


class ErrorsTest(ShelfTest):
    def test_the_list_is_complete(self):
        self.assertEqual(sorted(error.__name__ for error in LISTED_ERRORS), sorted(FIELDS))
        for error in [*LISTED_ERRORS, errors.ShelfError]:
            self.assertEqual(error.__module__, "dearestshelf.errors")

    def test_each_class_stands_directly_under_shelf_error(self):
        self.assertEqual(errors.ShelfError.__bases__, (ValueError,))
        for error in LISTED_ERRORS:
            self.assertEqual(error.__bases__, (errors.ShelfError,))

    def test_fields_by_position_and_by_name(self):
        for name, fields in FIELDS.items():
            told = getattr(errors, name)
            values = [f"value of {field}" for field in fields]
            named = dict(zip(fields, values))
            for error in (told(*values), told(**named)):
                self.check_error(error, told)
                self.assertEqual(vars(error), named)

    def test_fields_keep_any_value(self):
        self.assertIs(errors.BadNumber("k", None).at, None)
        self.assertEqual(errors.TooMany(25, 24).many, 25)
        self.assertEqual(errors.TooMany(25, 24).most, 24)
        self.assertEqual(errors.Crossed(((0, 1, 2), (1, 2, 1))).ring, ((0, 1, 2), (1, 2, 1)))

    def test_errors_can_be_raised_and_caught_by_the_base_class(self):
        for name, fields in FIELDS.items():
            told = getattr(errors, name)
            with self.assertRaises(errors.ShelfError):
                raise told(*fields)

    def test_each_error_is_raised(self):
        rule = Weighted([1, 1], 1)
        desk = Desk(1)
        desk.put("tea", 1, 1)
        book = SalesBook(2, [((0, 1), [1, 0], 1)])
        calls = {
            "ZeroBottom": ({}, lambda: Ratio(1, 0)),
            "BadText": ({}, lambda: Ratio.read("")),
            "BadLot": ({}, lambda: rule.shares((1, 0))),
            "NoBuyers": ({}, lambda: Listed(2, [])),
            "NothingToUndo": ({}, lambda: Desk(1).undo()),
            "BadNumber": ({"what": "prices", "at": 1}, lambda: rule.best([1, -1])),
            "TooMany": ({"many": 25, "most": 24}, lambda: Rule(25)),
            "BadWish": ({"at": None}, lambda: Wish((0, 0))),
            "Unlike": ({"at": None}, lambda: SalesBook(1) + SalesBook(2)),
            "BadTable": ({"at": 1}, lambda: Tabled(1, [[1, 0], [1, 2]])),
            "BadNeed": ({"at": 0}, lambda: Closed(rule, [1, 1], needs=[(0, 0)])),
            "Unsold": ({"thing": 1}, lambda: learned(rule, book)),
            "BadName": ({"name": "Tea"}, lambda: desk.put("Tea", 1, 1)),
            "KnownName": ({"name": "tea"}, lambda: desk.put("tea", 1, 1)),
            "UnknownName": ({"name": "jam"}, lambda: desk.drop("jam")),
            "BadLine": ({"line": 1}, lambda: run(desk, "brew tea")),
        }
        self.assertEqual(set(FIELDS) - set(calls), {"NotLists", "Crossed"})
        for name, (fields, call) in calls.items():
            self.assertEqual(list(fields), FIELDS[name])
            self.assert_raises(getattr(errors, name), fields, call)

    def test_errors_whose_fields_are_worked_out(self):
        with self.assertRaises(errors.NotLists) as caught:
            lists_of(Tabled(2, [[1, 0, 0], [1, 0, 0], [1, 0, 1], [1, 1, 0]]))
        self.check_error(caught.exception, errors.NotLists)
        self.assertEqual(set(vars(caught.exception)), {"lot", "thing", "amount"})
        self.assertLess(fraction(caught.exception.amount), 0)
        with self.assertRaises(errors.Crossed) as caught:
            weights_back(2, [((0, 1), [1, 1]), ((0, 1), [1, 2])])
        self.check_error(caught.exception, errors.Crossed)
        self.assertEqual(list(vars(caught.exception)), ["ring"])
