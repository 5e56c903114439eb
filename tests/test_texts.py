import random
import unittest
from itertools import permutations

from callsdown.errors import BadText
from callsdown.texts import kind_text, read_kind, read_rule, read_scaled, rule_text, scaled_text
from tests.plain import all_rules
from tests.plain_scaled import KNOWN, some_rules
from tests.plain_trees import KINDS
from tests.wrong import BAD_KINDS, BAD_RULES, BAD_SCALED, refuse

NO_STRINGS = (True, False, None, 0, 1, -1, b"1 2", b"half", ["1", "2"], [], ("half",), (1, 2), {}, {"1"}, 1.0, object(), str)
# What is put in, left out and exchanged in texts.
SIGNS = " 0123456789+-:.,_x\n\t\r/~"


def plain_rules():
    """All texts of LINE RULES, with what they tell."""
    return {" ".join(map(str, rule)): rule for rule in all_rules()}


def plain_kinds():
    """All texts of KINDS, with what they tell."""
    return {" ".join(map(str, kind)): kind for kind in KINDS}


def plain_scaled(text):
    """The SCALED RULE whose text this is, or None: tried by writing it again."""
    scale, colon, adds = text.partition(":")
    try:
        thing = (int(scale), tuple(int(add) for add in adds.split(" ")))
    except ValueError:
        return None
    right = 2 <= thing[0] <= 5 and 1 <= len(thing[1]) <= 5 and all(0 <= add <= 20 for add in thing[1])
    if not right or len(set(thing[1])) < len(thing[1]):
        return None
    return thing if f"{thing[0]}:" + " ".join(str(add) for add in thing[1]) == text else None


def changed(text, draw):
    """The text with something otherwise."""
    at = draw.randrange(len(text) + 1)
    sign = draw.choice(SIGNS)
    kind = draw.randrange(5)
    if kind == 0:
        return text[:at] + sign + text[at:]
    if kind == 1:
        return text[:at] + text[at + 1:]
    if kind == 2:
        return text[:at] + sign + text[at + 1:]
    words = text.split(" ")
    if kind == 3:
        draw.shuffle(words)
    else:
        words.insert(draw.randrange(len(words) + 1), draw.choice(words + ["", "0", "06", "7", "half", "half\nhalf", "1\n"]))
    return " ".join(words)


class Case(unittest.TestCase):
    def check_read(self, read, text, told):
        """told gives the thing for a row, or None."""
        row, newline, _ = text.partition("\n")
        thing = told(row)
        if thing is None:
            with self.assertRaises(BadText, msg=repr(text)) as held:
                read(text)
            self.assertEqual(held.exception.line, 1, repr(text))
            return 1
        if newline:
            with self.assertRaises(BadText, msg=repr(text)) as held:
                read(text)
            self.assertEqual(held.exception.line, 2, repr(text))
            return 2
        self.assertEqual(read(text), thing, repr(text))
        return 0

    def check_changed(self, read, texts, told, draw):
        lines = []
        for text in texts:
            for _ in range(12):
                other = changed(text, draw)
                lines.append(self.check_read(read, other, told))
                if draw.random() < 0.3:
                    lines.append(self.check_read(read, changed(other, draw), told))
        for line in (0, 1, 2):
            self.assertGreater(lines.count(line), 5)


class Rules(Case):
    def test_there_and_back(self):
        for text, rule in plain_rules().items():
            self.assertEqual(rule_text(rule), text)
            self.assertEqual(read_rule(text), rule)
            self.assertIs(type(read_rule(text)), tuple)
        self.assertEqual(rule_text(rule=(6, 1)), "6 1")
        self.assertEqual(read_rule(string="1 2 3 6"), (1, 2, 3, 6))

    def test_with_something_otherwise(self):
        draw = random.Random(283)
        texts = plain_rules()
        self.check_changed(read_rule, draw.sample(sorted(texts), 150), texts.get, draw)

    def test_known_ones(self):
        for text in (
            "", " ", "0", "7", "1 1", "1 2 3 4 5", "1  2", " 1", "1 ", "01", "1 02", "+1", "-1", "1,2", "(1, 2)", "1.0", "one", "\n1",
            "1\t2", "1 7", "1" * 31, "1" * 32, "1" * 5000, "9" * 20000, "1:2", "half", "\u00b2", "\u0661", "1\u00a02", "1\r\n2", "1_0", "x",
        ):
            self.assertEqual(self.check_read(read_rule, text, plain_rules().get), 1, text)
        for text in ("1\n", "1 2\n", "1 2\n3", "1 2\n\n", "1 2\n1 2", "1\n ", "1\n1 1"):
            self.assertEqual(self.check_read(read_rule, text, plain_rules().get), 2, text)


class Scaled(Case):
    def test_there_and_back(self):
        for scaled in KNOWN + some_rules(293, 300):
            text = scaled_text(scaled)
            self.assertEqual(text, str(scaled[0]) + ":" + " ".join(map(str, scaled[1])))
            self.assertEqual(read_scaled(text), scaled)
            self.assertEqual(plain_scaled(text), scaled)
        self.assertEqual(scaled_text(scaled=(2, (0, 1))), "2:0 1")
        self.assertEqual(read_scaled(string="5:20 0 19 1 18"), (5, (20, 0, 19, 1, 18)))

    def test_with_something_otherwise(self):
        draw = random.Random(307)
        texts = [scaled_text(scaled) for scaled in KNOWN + some_rules(311, 30)]
        self.check_changed(read_scaled, texts, plain_scaled, draw)

    def test_known_ones(self):
        for text in (
            "", ":", "2:", ":0", "2", "2 0 1", "2: 0 1", "2 :0 1", "2:0 1 ", " 2:0 1", "2:0  1", "02:0 1", "2:00 1", "2:0 01", "1:0", "6:0",
            "2:21", "2:-1", "2:0 0", "2:0 1 2 3 4 5", "2::0", "2:0:1", "2,0 1", "2:+1", "+2:1", "20:1", "2:0\t1", "0:1", "2:" + "1" * 5000,
            "2" * 5000 + ":1", "\n2:0 1", "2;0", "2:0,1", "2:a", "b:1", "2:\u0661",
        ):
            self.assertEqual(self.check_read(read_scaled, text, plain_scaled), 1, text)
        for text in ("2:0 1\n", "2:0 1\n2:0 1", "3:20\n\n", "2:0\n1"):
            self.assertEqual(self.check_read(read_scaled, text, plain_scaled), 2, text)


class Kinds(Case):
    def test_there_and_back(self):
        for text, kind in plain_kinds().items():
            self.assertEqual(kind_text(kind), text)
            self.assertEqual(read_kind(text), kind)
        self.assertEqual(kind_text(kind=("best", 8)), "best 8")
        self.assertEqual(read_kind(string="half"), ("half",))

    def test_with_something_otherwise(self):
        draw = random.Random(313)
        texts = plain_kinds()
        self.check_changed(read_kind, sorted(texts) * 8, texts.get, draw)

    def test_known_ones(self):
        for text in (
            "", " ", "half ", " half", "half 2", "Half", "halves", "parts", "parts ", "parts 1", "parts 9", "parts 02", "parts  2", "parts 2 ",
            "parts 2 2", "parts2", "best +2", "best -2", "heap 0", "heap 8.", "heap two", "2 heap", "heap\t2", "heap " + "2" * 5000, "tree 2",
            "\nhalf", "parts:2", "half half", "HEAP 2", "heap 2 half", "heap \u0662", "2", "half\r",
        ):
            self.assertEqual(self.check_read(read_kind, text, plain_kinds().get), 1, text)
        for text in ("half\n", "half\nhalf", "parts 2\n", "parts 2\n2", "heap 8\n\n", "half\n "):
            self.assertEqual(self.check_read(read_kind, text, plain_kinds().get), 2, text)

    def test_no_text_is_of_two_kinds_of_things(self):
        for text in list(plain_rules()) + list(plain_kinds()) + [scaled_text(scaled) for scaled in KNOWN]:
            read = 0
            for function in (read_rule, read_scaled, read_kind):
                try:
                    function(text)
                    read += 1
                except BadText as held:
                    self.assertEqual(held.line, 1)
            self.assertEqual(read, 1, text)


class Arguments(unittest.TestCase):
    def test_what_is_no_string(self):
        for function in (read_rule, read_scaled, read_kind):
            for thing in NO_STRINGS:
                with self.assertRaises(BadText) as held:
                    function(thing)
                self.assertEqual(held.exception.line, 0)
                with self.assertRaises(BadText) as held:
                    function(string=thing)
                self.assertEqual(held.exception.line, 0)

    def test_what_is_no_rule_scaled_rule_or_kind(self):
        for function, name, wrong in (
            (rule_text, "rule", BAD_RULES), (scaled_text, "scaled", BAD_SCALED), (kind_text, "kind", BAD_KINDS),
        ):
            for thing, error, part in wrong:
                refuse(self, lambda: function(thing), error, part)
                refuse(self, lambda: function(**{name: thing}), error, part)

    def test_all_orders_of_a_rule_are_unlike_texts(self):
        self.assertEqual(len({rule_text(rule) for rule in permutations((1, 2, 3, 4))}), 24)


if __name__ == "__main__":
    unittest.main()
