"""The examples of the document: what a caller types, line by line, and what comes back."""

from dearestshelf import errors
from tests.helper import ShelfTest

EXAMPLES = """
>>> from dearestshelf.ratios import Ratio
>>> a = Ratio(-7, 3)
>>> [a // 2, str(a % 2), str(2 - a)]
[-2, '5/3', '13/3']

>>> from dearestshelf.ratios import Ratio
>>> Ratio.read('4/2')
raises BadText

>>> from dearestshelf.weights import Weighted
>>> rule = Weighted([2, 1, 3], 4)
>>> shares = rule.shares((0, 2))
>>> lot, worth = rule.best([10, 3, 6])
>>> [str(shares[0]), str(shares[1]), str(shares[2]), lot, str(worth)]
['2/9', '0', '1/3', (0, 2), '38/9']

>>> from dearestshelf.weights import Weighted
>>> from dearestshelf.choices import AtMost
>>> lot, worth = AtMost(Weighted([2, 1, 3], 4), [10, 3, 6], most=1).best()
>>> [lot, str(worth)]
[(0,), '10/3']

>>> from dearestshelf.chains import Stepping
>>> chain = Stepping([1, 1], 2, [[0, 1], [0, 0]], [1, 1])
>>> shares = chain.shares((1,))
>>> values = chain.thing_values([1, 10])
>>> [str(shares[1]), str(values[0]), str(values[1])]
['3/8', '5', '10']

>>> from dearestshelf.tables import Tabled
>>> from dearestshelf.allprices import shortfall
>>> found = shortfall(Tabled(2, [[1, 0, 0], [1, 0, 0], [1, 0, 1], [1, 0, 0]]))
>>> [str(found.loss), found.order, found.lot, str(found.prices[0]), str(found.prices[1])]
['1', (0, 1), (1,), '1', '1']

>>> from dearestshelf.weights import Weighted
>>> from dearestshelf.season import Season
>>> season = Season(Weighted([1], 1), [6], seats=1, buyers=2)
>>> [str(season.worth(1, 2)), str(season.bar(1, 2)), season.lot_to_show(1, 2)]
['9/2', '9/2', (0,)]

>>> from dearestshelf.unsure import Unsure
>>> worth, weights, aside = Unsure([1, 1], [1, 5], aside=(1, 1)).least((0, 1), [9, 1])
>>> [str(worth), weights, aside]
['2', [1, 5], 1]

>>> from dearestshelf.weights import Weighted
>>> from dearestshelf.sales import SalesBook
>>> from dearestshelf.learning import learned
>>> after = learned(Weighted([1, 1], 1), SalesBook(2, [((0, 1), [2, 1], 1)]))
>>> [after.weights, after.aside]
[(6, 3), 4]

>>> from dearestshelf.back import weights_back
>>> weights_back(3, [((0, 1), [2, 4])])
[[(0, 1), (1, 2)], [(2, 1)]]

>>> from dearestshelf.desk import Desk
>>> from dearestshelf.script import run
>>> desk = Desk(4)
>>> run(desk, 'put tea 10 2\\nput jam 3 1\\nput cup 6 3\\nbest\\nshare tea')
['tea cup: 38/9', '2/9']

>>> from dearestshelf.desk import Desk
>>> from dearestshelf.script import run
>>> run(Desk(4), 'best\\nput Tea 1 1')
raises BadLine(line=2)
"""


class ExamplesTest(ShelfTest):
    def test_each_example(self):
        examples = EXAMPLES.strip().split("\n\n")
        self.assertEqual(len(examples), 12)
        for example in examples:
            *typed, told = example.split("\n")
            *statements, question = [row.removeprefix(">>> ") for row in typed]
            names = {}
            exec("\n".join(statements), names)
            if told.startswith("raises "):
                name, _, fields = told.removeprefix("raises ").removesuffix(")").partition("(")
                fields = dict([fields.split("=")]) if fields else {}
                fields = {field: int(number) for field, number in fields.items()}
                self.assert_raises(getattr(errors, name), fields, eval, question, names)
            else:
                self.assertEqual(repr(eval(question, names)), told)
