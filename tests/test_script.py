import random

from dearestshelf import script as module
from dearestshelf.desk import Desk
from dearestshelf.errors import BadLine, BadName, BadNumber, KnownName, NothingToUndo, TooMany, UnknownName
from dearestshelf.script import run
from tests.helper import ShelfTest
from tests.test_desk import NO_NAMES, small_desk, state

LARGE = 10**18 - 1
SMALL = "put tea 10 2\nput jam 3 1\nput cup 6 3"
NUMBER_FORMS = [("put pot {} 1", True), ("put pot 1 {}", False), ("price tea {}", True), ("weight tea {}", False)]
NUMBER_FORMS = NUMBER_FORMS + [("aside {}", False), ("limit {}", True)]
NO_NUMBERS = "00 01 007 -1 -0 +1 1.0 1,000 1_000 x 1x x1 0x1 1/2 ~ " + "1" * 19 + " " + "0" * 18
NO_LINES = """
Put pot 1 1
PUT pot 1 1
puts pot 1 1
undo
help
tea
0
put
put pot
put pot 1
put pot 1 1 1
drop
drop tea jam
price
price tea
price tea 1 1
price 1 tea
weight
weight tea
weight tea 1 1
aside
aside 1 1
aside tea
limit
limit 1 1
limit none
limit None
free 1
free tea
best 1
best tea
share
share tea jam
list 1
list tea
best;list
""".strip().split("\n")


class ScriptTest(ShelfTest):
    def assert_bad_line(self, desk, text, line, told=None, fields=None):
        """Check the error of a text and its cause, and that the desk is as it was, also for undo."""
        before = state(desk)
        with self.assertRaises(ValueError) as caught:
            run(desk, text)
        self.check_error(caught.exception, BadLine)
        self.assertEqual(vars(caught.exception), {"line": line}, text)
        cause = caught.exception.__cause__
        if told is None:
            self.assertIsNone(cause, text)
        else:
            self.check_error(cause, told)
            self.assertEqual(vars(cause), fields)
        self.assertEqual(state(desk), before)

    def assert_bad_lines(self, text, line, told=None, fields=None):
        """Check the error with two desks: with three deeds to undo, and with none."""
        desk = small_desk()
        self.assert_bad_line(desk, text, line, told, fields)
        told_states = []
        for _ in range(3):
            desk.undo()
            told_states.append(list(desk))
        self.assertEqual(told_states, [["tea", "jam"], ["tea"], []])
        self.assert_raises(NothingToUndo, {}, desk.undo)

    def assert_run(self, desk, text, answers):
        found = run(desk, text)
        self.assertIs(type(found), list)
        self.assertEqual(found, answers)

    def things(self, desk):
        return [(name, desk[name], desk.weight_of(name)) for name in desk]


class InterfaceTest(ScriptTest):
    def test_interface(self):
        self.assert_interface(module, {"run": "(desk, text)"})

    def test_examples(self):
        desk = Desk(4)
        self.assert_run(desk, SMALL + "\nbest\nshare tea", ["tea cup: 38/9", "2/9"])
        desk = Desk(4)
        self.assert_bad_line(desk, "best\nput Tea 1 1", 2, BadName, {"name": "Tea"})


class LinesTest(ScriptTest):
    def test_deeds(self):
        desk = Desk(4)
        self.assert_run(desk, SMALL, [])
        self.assertEqual(state(desk), state(small_desk()))
        told = [
            ("price jam 12", lambda other: other.set_price("jam", 12)),
            ("weight tea 7", lambda other: other.set_weight("tea", 7)),
            ("drop cup", lambda other: other.drop("cup")),
            ("aside 9", lambda other: other.set_aside(9)),
            ("limit 1", lambda other: other.set_limit(1)),
            ("put pot 0 1", lambda other: other.put("pot", 0, 1)),
            ("limit 0", lambda other: other.set_limit(0)),
            ("free", lambda other: other.set_limit(None)),
        ]
        other = small_desk()
        for line, deed in told:
            self.assert_run(desk, line, [])
            deed(other)
            self.assertEqual(state(desk), state(other))

    def test_empty_texts_and_lines(self):
        for text in ("", "\n", "\n\n\n"):
            desk = small_desk()
            before = state(desk)
            self.assert_run(desk, text, [])
            self.assertEqual(state(desk), before)
            desk.undo()
            self.assertEqual(list(desk), ["tea", "jam"])
        self.assert_run(small_desk(), "\n\nbest\n\nshare jam\n", ["tea cup: 38/9", "0"])
        self.assert_bad_lines("\n\nbest\n\nbets", 5)

    def test_best(self):
        self.assert_run(Desk(4), "best", ["nothing: 0"])
        self.assert_run(Desk(4), "put a 0 1\nbest", ["nothing: 0"])
        self.assert_run(Desk(1), "put nothing 4 1\nbest", ["nothing: 2"])
        self.assert_run(Desk(1), "put b 4 1\nput a 4 1\nbest\nlimit 1\nbest\nlimit 0\nbest\nfree\nbest", [
            "b a: 8/3", "b: 2", "nothing: 0", "b a: 8/3",
        ])  # fmt: skip

    def test_share(self):
        desk = small_desk()
        self.assert_run(desk, "share tea\nshare jam\nshare cup", ["2/9", "0", "1/3"])
        self.assert_run(desk, "limit 1\nshare tea\nshare cup\nfree\nweight tea 4\nshare tea", ["1/3", "0", "4/11"])
        for name in ("pot", "Tea", "te-a", "1", "~"):
            self.assert_bad_lines(f"best\nshare {name}", 2, UnknownName, {"name": name})
        self.assert_bad_lines("drop tea\nshare tea", 2, UnknownName, {"name": "tea"})

    def test_list(self):
        self.assert_run(Desk(4), "list", [])
        self.assert_run(small_desk(), "list", [
            "tea                     10             2",
            "jam                      3             1",
            "cup                      6             3",
        ])  # fmt: skip
        text = f"put abcdefghijkl {LARGE} 1\nput b 0 {LARGE}\nput c {10**13} {10**14}\nlist"
        self.assert_run(Desk(1), text, [
            "abcdefghijkl" + "9" * 18 + " " * 13 + "1",
            "b" + " " * 24 + "0" + "9" * 18,
            "c" + " " * 11 + "1" + "0" * 13 + "1" + "0" * 14,
        ])  # fmt: skip

    def test_answers_in_the_order_of_the_lines(self):
        desk = small_desk()
        answers = run(desk, "best\nprice jam 40\nbest\nlist\nshare jam")
        self.assertEqual(answers[0], "tea cup: 38/9")
        self.assertEqual(answers[1], "tea jam: 60/7")
        self.assertEqual([" ".join(answer.split()) for answer in answers[2:5]], ["tea 10 2", "jam 40 1", "cup 6 3"])
        self.assertEqual(answers[5:], ["1/7"])


class BadLinesTest(ScriptTest):
    def test_lines_that_are_none(self):
        for line in NO_LINES:
            self.assert_bad_lines(line, 1)
            self.assert_bad_lines(f"price tea 1\n\nbest\n{line}\nbest", 4)

    def test_empty_words(self):
        good = ["put pot 1 1", "drop tea", "price tea 1", "weight tea 1", "aside 1", "limit 1", "free", "best"]
        for line in [*good, "share tea", "list"]:
            for wrong in {f" {line}", f"{line} ", line.replace(" ", "  ", 1), f"  {line}", f"{line}  "} - {line}:
                self.assert_bad_lines(wrong, 1)
            self.assertIsInstance(run(small_desk(), line), list)
        for line in (" ", "  ", "drop ", "put  1 1", "put pot  1", "share "):
            self.assert_bad_lines(line, 1)

    def test_numbers(self):
        for form, _ in NUMBER_FORMS:
            for word in NO_NUMBERS.split(" "):
                if word != "":
                    self.assert_bad_lines(form.format(word), 1)
            for word in ("1", "9" * 18, "1" + "0" * 17):
                self.assert_run(small_desk(), form.format(word), [])
        desk = small_desk()
        run(desk, f"put pot {LARGE} {LARGE}\naside {LARGE}\nlimit {LARGE}")
        self.assertEqual((desk["pot"], desk.weight_of("pot")), (LARGE, LARGE))
        self.assertEqual((desk.aside_weight, desk.limit), (LARGE, LARGE))

    def test_zero(self):
        what = {"put pot 1 {}": "weight", "weight tea {}": "weight", "aside {}": "aside"}
        for form, allowed in NUMBER_FORMS:
            if allowed:
                self.assert_run(small_desk(), form.format(0), [])
            else:
                self.assert_bad_lines(form.format(0), 1, BadNumber, {"what": what[form], "at": None})

    def test_what_the_desk_refuses(self):
        for name in NO_NAMES:
            if name != "" and " " not in name and "\n" not in name and len(name) < 1900:
                self.assert_bad_lines(f"put {name} 1 1", 1, BadName, {"name": name})
                for form in ("drop {}", "price {} 1", "weight {} 1", "weight {} 0", "share {}"):
                    self.assert_bad_lines(form.format(name), 1, UnknownName, {"name": name})
                # A line that is none has no cause, whatever the desk would say.
                self.assert_bad_lines(f"put {name} 01 1", 1)
        self.assert_bad_lines("put jam 1 1", 1, KnownName, {"name": "jam"})
        self.assert_bad_lines("put jam 1 0", 1, KnownName, {"name": "jam"})
        self.assert_bad_lines("put Jam 1 0", 1, BadName, {"name": "Jam"})
        self.assert_bad_lines("best\n\ndrop pot", 3, UnknownName, {"name": "pot"})

    def test_too_many_things(self):
        lines = [f"put {letter} 1 1" for letter in "abcdefghijklmnopqrstuvwxyz"]
        desk = Desk(1)
        self.assert_bad_line(desk, "\n".join(lines[:25]), 25, TooMany, {"many": 25, "most": 24})
        self.assertEqual(len(desk), 0)
        self.assert_run(desk, "\n".join(lines[:24]), [])
        self.assert_bad_line(desk, lines[24], 1, TooMany, {"many": 25, "most": 24})

    def test_an_error_in_the_last_line(self):
        for last, told, fields in [("bets", None, None), ("drop pot", UnknownName, {"name": "pot"})]:
            text = f"price tea 1\ndrop jam\nlimit 1\naside 50\nput milk 1 1\nlist\nbest\n{last}"
            self.assert_bad_lines(text, 8, told, fields)
            self.assert_bad_lines(text + "\nbest", 8, told, fields)
            desk = small_desk()
            desk.set_aside(9)
            desk.undo()
            self.assert_bad_line(desk, text, 8, told, fields)
            desk.undo()
            self.assertEqual(list(desk), ["tea", "jam"])

    def test_the_first_error_counts(self):
        self.assert_bad_lines("best\ndrop pot\nbets", 2, UnknownName, {"name": "pot"})
        self.assert_bad_lines("best\nbets\ndrop pot", 2)


class UndoTest(ScriptTest):
    def test_several_deeds_count_as_one(self):
        desk = small_desk()
        before = state(desk)
        run(desk, "price tea 1\nbest\ndrop jam\nput milk 4 4\nfree\nlimit 2")
        self.assertEqual(self.things(desk), [("tea", 1, 2), ("cup", 6, 3), ("milk", 4, 4)])
        self.assertIsNone(desk.undo())
        self.assertEqual(state(desk), before)
        desk.undo()
        self.assertEqual(list(desk), ["tea", "jam"])

    def test_a_text_without_a_deed_counts_as_none(self):
        for text in ("", "\n", "best", "list\nshare tea\n\nbest"):
            desk = small_desk()
            run(desk, text)
            desk.undo()
            self.assertEqual(list(desk), ["tea", "jam"])
        desk = Desk(1)
        run(desk, "best\nlist")
        self.assert_raises(NothingToUndo, {}, desk.undo)

    def test_deeds_that_change_nothing_count(self):
        for text in ("free", "price tea 10", "aside 4", "limit 1\nfree", "put pot 1 1\ndrop pot"):
            desk = small_desk()
            before = state(desk)
            run(desk, text)
            self.assertEqual(state(desk), before)
            desk.undo()
            self.assertEqual(state(desk), before)
            desk.undo()
            self.assertEqual(list(desk), ["tea", "jam"])

    def test_texts_and_deeds_by_turns(self):
        told = random.Random(34)
        desk, states = small_desk(), []
        for _ in range(30):
            states.append(state(desk))
            if told.random() < 0.5:
                lines = told.choices(["price tea 7", "weight cup 2", "limit 1", "free", "aside 2", "best"], k=4)
                run(desk, "\n".join([*lines, "price jam 5", "best"]))
            else:
                desk.set_price("tea", told.randint(0, 20))
        for before in states[::-1]:
            desk.undo()
            self.assertEqual(state(desk), before)
        self.assertEqual(state(desk), state(small_desk()))

    def test_a_desk_after_a_text_goes_on_alone(self):
        desk = small_desk()
        run(desk, "price tea 1")
        desk["tea"] = 5
        desk.put("pot", 1, 1)
        run(desk, "drop pot\nprice cup 9")
        self.assertEqual(self.things(desk), [("tea", 5, 2), ("jam", 3, 1), ("cup", 9, 3)])
        for told in (["tea", "jam", "cup", "pot"], ["tea", "jam", "cup"]):
            desk.undo()
            self.assertEqual(list(desk), told)
        desk.undo()
        self.assertEqual(desk["tea"], 1)

    def test_a_long_text(self):
        desk = small_desk()
        run(desk, "price tea 5\n" * 160 + "limit 2")
        self.assertEqual(desk["tea"], 5)
        desk.undo()
        self.assertEqual(desk["tea"], 10)
