from dearestshelf import errors
from tests.helper import LISTED_ERRORS, ShelfTest

FIELDS = {
    "ZeroBottom": [],
    "BadText": [],
    "BadLot": [],
    "NoBuyers": [],
    "NothingToUndo": [],
    "BadNumber": ["what", "at"],
    "TooMany": ["many", "most"],
    "BadWish": ["at"],
    "Unlike": ["at"],
    "BadTable": ["at"],
    "BadNeed": ["at"],
    "NotLists": ["lot", "thing", "amount"],
    "Unsold": ["thing"],
    "Crossed": ["ring"],
    "BadName": ["name"],
    "KnownName": ["name"],
    "UnknownName": ["name"],
    "BadLine": ["line"],
}


class ErrorsTest(ShelfTest):
    def test_the_list_is_complete(self):
        self.assertEqual(sorted(error.__name__ for error in LISTED_ERRORS), sorted(FIELDS))
        for error in [*LISTED_ERRORS, errors.ShelfError]:
            self.assertEqual(error.__module__, "dearestshelf.errors")

    def test_each_class_stands_directly_under_shelf_error(self):
        self.assertEqual(errors.ShelfError.__bases__, (ValueError,))
        for error in LISTED_ERRORS:
            self.assertEqual(error.__bases__, (errors.ShelfError,))

    def test_fields_by_position_and_by_name(self):
        for name, fields in FIELDS.items():
            told = getattr(errors, name)
            values = [f"value of {field}" for field in fields]
            named = dict(zip(fields, values))
            for error in (told(*values), told(**named)):
                self.check_error(error, told)
                self.assertEqual(vars(error), named)

    def test_fields_keep_any_value(self):
        self.assertIs(errors.BadNumber("k", None).at, None)
        self.assertEqual(errors.TooMany(25, 24).many, 25)
        self.assertEqual(errors.TooMany(25, 24).most, 24)
        self.assertEqual(errors.Crossed(((0, 1, 2), (1, 2, 1))).ring, ((0, 1, 2), (1, 2, 1)))

    def test_errors_can_be_raised_and_caught_by_the_base_class(self):
        for name, fields in FIELDS.items():
            told = getattr(errors, name)
            with self.assertRaises(errors.ShelfError):
                raise told(*fields)
