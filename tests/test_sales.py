from dearestshelf import sales as module
from dearestshelf.errors import BadLot, TooMany, Unlike
from dearestshelf.sales import SalesBook
from tests.helper import ShelfTest, wrong_lots

LARGE = 10**18 - 1
RECORDS = [((0, 1), [2, 1], 1), ((), [], 4), ((1,), [3], 0), ((0, 1), [2, 1], 1)]
ENTERED = [((0, 1), (2, 1), 1), ((), (), 4), ((1,), (3,), 0), ((0, 1), (2, 1), 1)]


class SalesTest(ShelfTest):
    def assert_records(self, book, records):
        """Check the records of a book and their kinds."""
        found = [record for record in book]
        self.assertEqual(found, records)
        self.assertEqual(len(book), len(records))
        for record in found:
            self.assertIs(type(record), tuple)
            self.assertEqual([type(part) for part in record], [tuple, tuple, int])
        for thing in range(book.many):
            told = sum(dict(zip(lot, sold)).get(thing, 0) for lot, sold, gone in records)
            self.assertEqual(book.sold_of(thing), told)

    def wrong_records(self):
        """Return triples that are no records of three things, with the error and its fields."""
        wrong = [((lot, [1] * len(lot), 0), BadLot, {}) for lot in wrong_lots(3)]
        wrong = wrong + [((lot, [], -1), BadLot, {}) for lot in wrong_lots(3)]
        for lot, sold, at in [
            ((0, 2), [], None),
            ((0, 2), [1], None),
            ((0, 2), [1, 1, 1], None),
            ((), [0], None),
            ((0, 2), [-1], None),
            ((0, 2), [-1, -1], 0),
            ((0, 2), [0, -1], 1),
            ((2,), [-LARGE], 0),
        ]:
            for gone in (0, -1):
                wrong.append(((lot, sold, gone), None, {"what": "sold", "at": at}))
        for gone in (-1, -LARGE):
            wrong.append((((0, 2), [1, 1], gone), None, {"what": "gone", "at": None}))
            wrong.append((((), [], gone), None, {"what": "gone", "at": None}))
        return wrong

    def assert_refused(self, told, fields, call, *values):
        if told is None:
            self.assert_number(fields["what"], fields["at"], call, *values)
        else:
            self.assert_raises(told, fields, call, *values)


class InterfaceTest(SalesTest):
    def test_interface(self):
        self.assert_interface(module, {"SalesBook": "(many, records=())"})
        signatures = {
            "enter": "(self, lot, sold, gone)",
            "sold_of": "(self, thing)",
            "__iadd__": "(self, other)",
            "__add__": "(self, other)",
            "__len__": "(self)",
            "__iter__": "(self)",
        }
        self.assert_interface(SalesBook, signatures)

    def test_without_records(self):
        for many in (0, 1, 24):
            self.assert_records(SalesBook(many), [])
            self.assert_records(SalesBook(many, []), [])
            self.assertEqual(SalesBook(many).many, many)

    def test_with_records(self):
        book = SalesBook(3, RECORDS)
        self.assertEqual(book.many, 3)
        self.assert_records(book, ENTERED)
        self.assertEqual([book.sold_of(thing) for thing in range(3)], [4, 5, 0])
        self.assert_records(SalesBook(0, [((), [], 7)]), [((), (), 7)])
        everything = tuple(range(24))
        self.assert_records(SalesBook(24, [(everything, [LARGE] * 24, LARGE)]), [(everything, (LARGE,) * 24, LARGE)])

    def test_enter(self):
        book = SalesBook(3)
        for at, (lot, sold, gone) in enumerate(RECORDS):
            self.assertIsNone(book.enter(lot, sold, gone))
            self.assert_records(book, ENTERED[: at + 1])

    def test_lists_may_be_changed_afterwards(self):
        sold = [2, 1]
        records = [((0, 1), sold, 1)]
        book = SalesBook(3, records)
        book.enter((1, 2), sold, 0)
        book += ((0, 2), sold, 5)
        self.assertEqual((sold, records), ([2, 1], [((0, 1), [2, 1], 1)]))
        sold[0] = 99
        sold.append(4)
        records.clear()
        list(book).clear()
        self.assert_records(book, [((0, 1), (2, 1), 1), ((1, 2), (2, 1), 0), ((0, 2), (2, 1), 5)])

    def test_sold_of_a_thing_that_was_never_sold(self):
        book = SalesBook(4, [((0, 2), [0, 3], 1)])
        self.assertEqual([book.sold_of(thing) for thing in range(4)], [0, 0, 3, 0])

    def test_a_loop_over_a_book_that_is_entered_into(self):
        book = SalesBook(3, RECORDS)
        for lot, sold, gone in book:
            book.enter(lot, sold, gone)
        self.assert_records(book, ENTERED + ENTERED)


class ChecksTest(SalesTest):
    def test_too_many(self):
        fields = {"many": 25, "most": 24}
        self.assert_raises(TooMany, fields, SalesBook, 25)
        self.assert_raises(TooMany, fields, SalesBook, 25, [((30,), [], -1)])
        self.assert_raises(TooMany, {"many": LARGE, "most": 24}, SalesBook, LARGE, [])

    def test_wrong_records(self):
        for record, told, fields in self.wrong_records():
            self.assert_refused(told, fields, SalesBook, 3, [record])
            book = SalesBook(3, RECORDS)
            self.assert_refused(told, fields, book.enter, *record)
            self.assert_records(book, ENTERED)

    def test_a_wrong_record_among_good_ones(self):
        for record, told, fields in self.wrong_records():
            for at in range(len(RECORDS) + 1):
                self.assert_refused(told, fields, SalesBook, 3, [*RECORDS[:at], record, *RECORDS[at:]])
        # The first wrong record counts.
        self.assert_number("gone", None, SalesBook, 3, [((), [], 1), ((), [], -1), ((7,), [1], 1)])
        self.assert_raises(BadLot, {}, SalesBook, 3, [((), [], 1), ((7,), [1], 1), ((), [], -1)])

    def test_refused_in_place(self):
        for record, told, fields in self.wrong_records():
            book = SalesBook(3, RECORDS)
            named = {"book": book}

            def add():
                named["book"] += record

            self.assert_refused(told, fields, add)
            self.assertIs(named["book"], book)
            self.assert_records(book, ENTERED)


class AddTest(SalesTest):
    def test_in_place(self):
        book = SalesBook(3)
        second_name = book
        for record in RECORDS:
            book += record
        self.assertIs(book, second_name)
        self.assert_records(second_name, ENTERED)

    def test_sum(self):
        first, second = SalesBook(3, RECORDS[:1]), SalesBook(3, RECORDS[1:])
        both = first + second
        self.assertIs(type(both), SalesBook)
        self.assertEqual(both.many, 3)
        self.assert_records(both, ENTERED)
        self.assert_records(first, ENTERED[:1])
        self.assert_records(second, ENTERED[1:])
        self.assert_records(second + first, ENTERED[1:] + ENTERED[:1])
        self.assert_records(first + first, ENTERED[:1] * 2)
        self.assert_records(first + SalesBook(3), ENTERED[:1])
        self.assert_records(SalesBook(3) + SalesBook(3), [])

    def test_the_sum_is_a_book_of_its_own(self):
        first, second = SalesBook(3, RECORDS), SalesBook(3)
        both = first + second
        other = second + first
        self.assertIsNot(both, first)
        both.enter((2,), [1], 0)
        first += ((), [], 9)
        second.enter((), [], 8)
        self.assert_records(both, ENTERED + [((2,), (1,), 0)])
        self.assert_records(other, ENTERED)
        self.assert_records(first, ENTERED + [((), (), 9)])
        self.assert_records(second, [((), (), 8)])

    def test_unlike_books(self):
        for many, other in [(3, 4), (4, 3), (0, 24), (24, 0)]:
            first, second = SalesBook(many, [((), [], 1)]), SalesBook(other)
            self.assert_raises(Unlike, {"at": None}, lambda left, right: left + right, first, second)
            self.assert_records(first, [((), (), 1)])
            self.assert_records(second, [])
