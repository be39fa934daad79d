"""Promise [86]: histories as texts and back, and sheets that are judged."""

import re
import unittest
from random import Random

from formed import box
from helping import NO_TUPLES, SolidCase
from onesolid.cuttings import euler, is_bounded
from onesolid.errors import NotHistory, NotName, NotNumber, NotPoint, NotText, TooGreat
from onesolid.histories import build, check_history, set_of
from onesolid.measures import volume
from onesolid.parts import parts_of
from onesolid.ranges import is_so
from onesolid.sheets import history_text, judged, read_history
from onesolid.texts import formula_text, read_formula
from telling import PLANE, QUICK, WORDS, some_histories
from test_histories import OPEN

PLANE_TEXT = """space 2
number a 3
number b 0
number unused -7
solid square of and 4 ge 1 0 0 le 1 0 ( 0 a -1 ) ge 0 1 0 le 0 1 ( 1 a -1 b 2 )
solid half of not lt 1 1 ( -2 b 5 )
solid a and 2 square half
solid both or 3 half square a
solid less less square half
solid far moved 10 ( 0 a 2 ) square
solid row copies 3 ( 1 a 1 ) 0 square
solid turned back 0 1 0 -1 0 2 square
solid beam along 1 2 square
solid whole always 1 0 both
solid edge rim square
solid core inner square
solid shell close less
solid sum sum edge edge
solid thin shrunk square edge
solid hull hull row
solid not not hull
solid last same not"""

CLAIMS = """empty whole
not empty square
all a
not all a
bounded square
not bounded not
within a square
equal not last
not equal square half
apart less far
holds square 1 1 2
not holds square 9 9 2
volume square 6 1
not volume square 7 1
volume not 0 1
euler square 1
not euler square 0
parts row 3
parts whole 0"""

LINE_TEXT = "space 1\nnumber n 4\nsolid a of or 2 lt 1 ( 5 n -2 ) eq 1 -9\nsolid b not a"

INTEGER = re.compile(r"(0|-?[1-9][0-9]*)\Z")
NAME = re.compile(r"[a-z]{1,8}\Z")
ONES = ("same", "not", "close", "inner", "rim", "hull")
TWOS = ("less", "sum", "shrunk")
CLAIM_NAMES = {"empty": 1, "all": 1, "bounded": 1, "within": 2, "equal": 2, "apart": 2, "holds": 1, "volume": 1,
               "euler": 1,
               "parts": 1}


def number_of(word, low=None, high=None, digits=7):
    """The integer of a word, None if it is none that may stand there."""
    if not INTEGER.match(word) or len(word.lstrip("-")) > digits:
        return None
    number = int(word)
    return None if (low is not None and not low <= number <= high) else number


class Wrong(Exception):
    pass


class Line:
    """The words of a line, taken one after the other."""

    def __init__(self, line):
        self.words = line.split(" ")
        self.taken = 0

    def take(self, allowed):
        if self.taken >= len(self.words) or not allowed(self.words[self.taken]):
            raise Wrong
        self.taken += 1
        return self.words[self.taken - 1]

    def peek(self):
        return self.words[self.taken] if self.taken < len(self.words) else None

    def integers(self, many, digits=7):
        for _ in range(many):
            self.take(lambda word: number_of(word, digits=digits) is not None)

    def names(self, many):
        for _ in range(many):
            self.take(NAME.match)

    def entry(self):
        if self.peek() != "(":
            self.integers(1)
            return
        self.taken += 1
        self.integers(1)
        for part in range(4):
            self.names(1)
            self.integers(1)
            if self.peek() == ")":
                break
        self.take(lambda word: word == ")")

    def formula(self, dimension, depth, left):
        """Takes a formula; left is a list of how many more words there may be beside those bound to come."""
        leaf = depth == 12 or left[0] == 0
        words = ["lt", "le", "eq", "ne", "ge", "gt", "and", "or"]
        if not leaf:
            words += ["not", "back"] + (["some", "every"] if dimension < 4 else [])
        word = self.take(lambda own: own in words)
        if word in ("and", "or"):
            most = left[0] if depth < 12 else 0
            many = int(self.take(lambda own: number_of(own, 0, most) is not None))
            left[0] -= many
            for _ in range(many):
                self.formula(dimension, depth + 1, left)
        elif word in ("not", "some", "every", "back"):
            left[0] -= 1
            inner = dimension + (word in ("some", "every"))
            if word == "back":
                inner = int(self.take(lambda own: number_of(own, 1, 4) is not None))
                for _ in range(inner * (dimension + 1)):
                    self.take(lambda own: number_of(own, -10 ** 6, 10 ** 6) is not None)
            self.formula(inner, depth + 1, left)
        else:
            for _ in range(dimension):
                self.take(lambda own: number_of(own, -10 ** 6, 10 ** 6) is not None)
            if self.peek() == "(":
                self.entry()
            else:
                self.take(lambda own: number_of(own, -10 ** 6, 10 ** 6) is not None)

    def telling(self, dimension):
        words = ONES + TWOS + ("of", "and", "or", "moved", "copies", "back", "along", "always")
        word = self.take(lambda own: own in words)
        many = 1
        if word == "of":
            self.formula(dimension, 1, [199])
            return
        if word in ("and", "or"):
            many = int(self.take(lambda own: number_of(own, 1, 12) is not None))
        elif word in TWOS:
            many = 2
        elif word == "back":
            self.integers(dimension * (dimension + 1))
        elif word in ("along", "always"):
            self.integers(dimension)
        elif word in ("moved", "copies"):
            if word == "copies":
                self.take(lambda own: number_of(own, 1, 60) is not None)
            for _ in range(dimension):
                self.entry()
        self.names(many)

    def claim(self, dimension, word):
        if word == "not":
            word = self.take(lambda own: own in CLAIM_NAMES)
        self.names(CLAIM_NAMES[word])
        self.integers({"holds": dimension + 1, "volume": 2, "euler": 1, "parts": 1}.get(word, 0), 1000)


def first_wrong(text, has_claims):
    """The numbers of the line and the word at which a text goes wrong, None if it goes on to its end."""
    dimension = None
    state = 0
    for number, own in enumerate(text.split("\n")):
        line = Line(own)
        try:
            if number == 0:
                line.take(lambda word: word == "space")
                dimension = int(line.take(lambda word: word in ("1", "2", "3")))
            else:
                words = (["number"] if state == 0 else []) + (["solid"] if state < 2 else [])
                words += list(CLAIM_NAMES) + ["not"] if has_claims else []
                word = line.take(lambda own: own in words)
                state = max(state, {"number": 0, "solid": 1}.get(word, 2))
                if word == "number":
                    line.names(1)
                    line.integers(1)
                elif word == "solid":
                    line.names(1)
                    line.telling(dimension)
                else:
                    line.claim(dimension, word)
            if line.taken < len(line.words):
                raise Wrong
        except Wrong:
            return number, line.taken
    return None


class Texts(SolidCase):

    def test_worked_by_hand(self):
        self.same(history_text(history=PLANE), PLANE_TEXT)
        self.same(read_history(text=PLANE_TEXT), PLANE)
        self.same(read_history(LINE_TEXT), (1, (("n", 4),), (
            ("a", ("of", ("or", ("is", "lt", (1, (5, (("n", -2),)))), ("is", "eq", (1, -9))))), ("b", ("not", "a")))))
        self.same(history_text((3, (), (("a", OPEN),))), "space 3\nsolid a of and 0")
        self.same(read_history("space 3\nsolid a of and 0"), (3, (), (("a", OPEN),)))

    def test_there_and_back(self):
        for dimension in (1, 2, 3):
            for value in some_histories(dimension, 40, 8, WORDS, 490):
                text = history_text(value)
                self.same(read_history(text), value)
                self.assertIsNone(first_wrong(text, False))
                self.same(judged(text), ())
                for name, telling in value[2]:
                    if telling[0] == "of" and "(" not in text:
                        self.assertIn(f"solid {name} of {formula_text(telling[1])}", text.split("\n"))

    def refuses(self, text):
        for call, has_claims in ((read_history, False), (judged, True)):
            place = first_wrong(text, has_claims)
            if place is not None:
                self.refused(NotText, call, text, line=place[0], word=place[1])
        return first_wrong(text, True) is not None

    def test_words_left_out_doubled_and_otherwise(self):
        random = Random(491)
        many = 0
        texts = [PLANE_TEXT + "\n" + CLAIMS, LINE_TEXT + "\nholds a 1 2\nparts b 2"]
        for dimension in (1, 2, 3):
            texts += [history_text(value) for value in some_histories(dimension, 4, 6, WORDS, 492)]
        others = ("", "0", "1", "-1", "01", "-0", "+1", "1.0", "10000000", "9999999", "1000001", "-1000000", "13",
                  "61", "60", "a",
                  "A", "abcdefgh", "abcdefghi", "(", ")", "of", "not", "solid", "number", "space", "and", "some", "lt",
                  "is",
                  "volume", "empty", "\u00e9", "a1", "\t")
        for text in texts:
            lines = [line.split(" ") for line in text.split("\n")]
            for number, words in enumerate(lines):
                for place in range(len(words)):
                    bent = [words[:place] + words[place + 1:], words[:place] + words[place:place + 1] + words[place:],
                            words[:place], words + [words[place]], words[:place] + [""] + words[place:]]
                    bent += [words[:place] + [other] + words[place + 1:] for other in random.sample(others, 8)]
                    for own in bent:
                        fresh = lines[:number] + [own] + lines[number + 1:]
                        many += self.refuses("\n".join(" ".join(line) for line in fresh))
        self.assertGreater(many, 3000)

    def test_lines_out_of_their_places(self):
        lines = (PLANE_TEXT + "\n" + CLAIMS).split("\n")
        random = Random(493)
        many = 0
        for number in range(len(lines)):
            for other in random.sample(range(len(lines)), 6):
                turned = list(lines)
                turned.insert(other, turned.pop(number))
                many += self.refuses("\n".join(turned))
            many += self.refuses("\n".join(lines[:number] + [""] + lines[number:]))
            many += self.refuses("\n".join(lines[:number] + lines[number:number + 1] + lines[number:]))
        self.assertGreater(many, 90)
        for text in ("", "\n", "space", "space 1\n", "\nspace 1", "space 1\nspace 1", "space 0", "space 4", "space 1 ",
                     " space 1",
                     "space 01", "number a 1", "solid a same a", "empty a", "space 1\n\nsolid a same a",
                     "space 1\r\nempty a"):
            self.assertTrue(self.refuses(text))

    def test_no_string(self):
        for call in (read_history, judged):
            for value in NO_TUPLES + ((), (PLANE_TEXT,), PLANE_TEXT.encode(), PLANE_TEXT.split("\n")):
                if not isinstance(value, str):
                    self.refused(NotText, call, value, line=None, word=None)

    def test_claims_stand_in_sheets_alone(self):
        for claim in CLAIMS.split("\n"):
            self.refused(NotText, read_history, PLANE_TEXT + "\n" + claim, line=22, word=0)
        self.refused(NotText, judged, PLANE_TEXT + "\nempty a\nsolid q of and 0", line=23, word=0)
        self.refused(NotText, judged, PLANE_TEXT + "\nnumber q 5", line=22, word=0)
        self.refused(NotText, judged, PLANE_TEXT + "\nnot not empty a", line=22, word=1)
        self.refused(NotText, judged, PLANE_TEXT + "\nnot", line=22, word=1)
        self.refused(NotText, judged, PLANE_TEXT + "\nnot solid", line=22, word=1)

    def test_limits(self):
        head = "space 1\nnumber a 0\nsolid a of and 0\n"
        names = " ".join(["a"] * 12)
        for line, word in (("solid b and 13", 3), ("solid b and 0", 3), ("solid b or 012", 3),
                           ("solid b and 12 " + names[2:], 15),
                           ("solid b and 12 " + names + " a", 16), ("solid b copies 0", 3), ("solid b copies 61", 3),
                           ("solid b copies -1", 3), ("solid b moved 10000000", 3), ("solid b moved ( 10000000", 4),
                           ("solid b moved ( 1 a 10000000", 6), ("solid b moved ( 1 )", 5),
                           ("solid b moved ( 1 a )", 6),
                           ("solid b moved ( 1 a 1 a 1 a 1 a 1 a", 13), ("solid b moved ( 1 a 1", 7),
                           ("solid b moved ( )", 4),
                           ("solid b moved 1 2", 4), ("solid b of lt 1 10000000", 5), ("solid b of lt 1 1000001", 5),
                           ("solid b of lt 1 ( 10000000", 6), ("solid b of lt ( 1 a 1 ) 0", 4),
                           ("solid b along 10000000", 3),
                           ("solid b back 1 10000000", 4), ("solid b back ( 1 a 1 )", 3), ("solid b of not", 4),
                           ("solid b of lt 1 0 0", 6), ("solid b of is lt 1 0", 3), ("solid abcdefghi", 1),
                           ("solid b same", 3),
                           ("solid b same a a", 4), ("solid B", 1), ("solid", 1), ("solid b", 2), ("solid b xor", 2)):
            self.refused(NotText, read_history, head + line, line=3, word=word)
            self.assertEqual(first_wrong(head + line, False), (3, word))
        # What the words allow is judged as a history.
        for line in ("solid b moved 9999999 a", "solid b moved ( -9999999 a 1 ) a", "solid b moved ( 0 a 0 ) a",
                     "solid b moved ( 0 b 1 ) a", "solid b moved ( 0 a 1 a 1 ) a", "solid b moved ( 0 b 1 a 1 ) a",
                     "solid b same c",
                     "solid a same a", "solid b along 0 a", "solid b along 2 a", "solid b always 9999999 a",
                     "solid b back 1 1000001 a",
                     "solid b of lt 1 ( 1000001 a 1 )", "solid b of lt 1 ( 1 a 9999999 )", "solid b of lt 1 ( 0 q 1 )",
                     "solid b of lt 1 ( 0 a 1 a 1 )"):
            for call in (read_history, judged):
                self.refused(NotHistory, call, head + line, place=(2, 1))
        for line in ("solid b moved 1000000 a", "solid b moved ( -1000000 a 1 ) a", "solid b copies 60 0 a",
                     "solid b and 12 " + names,
                     "solid b of lt 1 ( 5 a -3 )", "solid b of some lt 1 1 ( 5 a -3 )",
                     "solid b of back 1 1 1 lt 1 ( 5 a -3 )"):
            self.same(history_text(read_history(head + line)), head + line)

    def test_histories_that_are_none(self):
        for text, place in (("space 1", (2,)), ("space 1\nnumber a 1", (2,)),
                            ("space 1\nnumber a 1000001\nsolid a of and 0", (1, 0)),
                            ("space 1\nnumber b 1\nnumber a 1\nsolid a of and 0", (1, 1)),
                            ("space 1\nnumber a 1\nnumber a 1\nsolid a of and 0", (1, 1)),
                            ("space 1\nsolid a same b\nsolid b of and 0", (2, 0))):
            self.refused(NotHistory, read_history, text, place=place)
            self.refused(NotHistory, judged, text, place=place)
            self.refused(NotHistory, judged, text + "\nempty zz", place=place)
        many = "\n".join(f"number {a}{b} 0" for a in "ab" for b in "abcdefghijk")
        self.refused(NotHistory, read_history, "space 1\n" + many + "\nsolid a of and 0", place=(1,))
        many = "\n".join(f"solid {a}{b} of and 0" for a in "abcde" for b in "abcdefghi")
        self.refused(NotHistory, read_history, "space 1\n" + many, place=(2,))
        # Another word that is wrong comes first, wherever it stands.
        self.refused(NotText, read_history, "space 1\n" + many + "\nsolid", line=46, word=1)
        self.refused(NotText, judged, "space 1\n" + many + "\nempty", line=46, word=1)

    def test_entries_stand_in_histories_alone(self):
        for text, place in (("lt 1 ( 0 a 1 )", 2), ("lt 1 (", 2), ("and 1 eq 1 ( 0 a 1 )", 4), ("( 0 a 1 )", 0)):
            self.refused(NotText, read_formula, 1, text, line=0, word=place)

    def test_formulas_as_read_formula_reads_them(self):
        random = Random(494)
        texts = ["lt 1 0", "not lt 1 0", "some lt 1 0 3", "and 2 lt 1 0 ge 1 5", "every some gt 1 2 3 4",
                 "back 2 1 0 0 1 eq 1 1 5",
                 "or 0", "not " * 11 + "lt 1 0", "not " * 12 + "lt 1 0", "and 199 " + "or 0 " * 198 + "or 0",
                 "and 200 " + "or 0 " * 199 + "or 0", "some some some some lt 1 0", "some some some lt 1 2 3 4 5"]
        others = ("", "0", "-1", "a", "lt", "not", "some", "200", "1000001", "12345678", "is")
        for text in texts:
            words = text.split(" ")
            for place in random.sample(range(len(words)), min(6, len(words))):
                for bent in [words[:place] + [other] + words[place + 1:] for other in others] + [words[:place], words]:
                    own = " ".join(bent)
                    try:
                        formula = read_formula(1, own)
                    except NotText as error:
                        self.refused(NotText, read_history, "space 1\nsolid a of " + own, line=1, word=error.word + 3)
                    else:
                        self.same(read_history("space 1\nsolid a of " + own), (1, (), (("a", ("of", formula)),)))


class Judged(SolidCase):

    def test_worked_by_hand(self):
        self.same(judged(text=PLANE_TEXT), ())
        found = judged(PLANE_TEXT + "\n" + CLAIMS)
        wanted = []
        for line in CLAIMS.split("\n"):
            words = line.split(" ")
            is_denied = words[0] == "not"
            word, name, *rest = words[1:] if is_denied else words
            form = set_of(PLANE, name)
            if word == "volume":
                so = is_bounded(form) and volume(form) == tuple(int(own) for own in rest)
            elif word == "euler":
                so = euler(form) == int(rest[0])
            elif word == "parts":
                so = len(parts_of(form)) == int(rest[0])
            elif word == "holds":
                so = is_so(PLANE, (word, name, tuple(int(own) for own in rest)))
            else:
                so = is_so(PLANE, (word, name) + tuple(rest))
            wanted.append(so != is_denied)
        self.same(found, tuple(wanted))
        self.same(found, (True, True, False, True, True, True, True, True, True, True, True, True, True, True, False,
                          True, True,
                          True, True))

    def test_claims_behind_a_line_of_any_kind(self):
        self.refused(NotHistory, judged, "space 1\nempty a", place=(2,))
        self.same(judged("space 1\nsolid a of and 0\nall a\nnot all a\neuler a -1\nnot parts a 1\nparts a 1"),
                  (True, False, True, False, True))

    def test_volumes(self):
        head = "space 1\nsolid a of and 2 ge 2 -1 le 1 -3\nsolid b not a\n"
        self.same(judged(head + "volume a 5 2\nvolume a 5 1\nnot volume a 5 2\nvolume b 5 2\nnot volume b 0 1"),
                  (True, False, False, False, True))
        for top, bottom in ((4, 2), (5, 0), (5, -2), (0, 2), (-5, -2)):
            self.refused(NotNumber, judged, head + f"volume a {top} {bottom}", value=(top, bottom))
            self.refused(NotNumber, judged, head + f"not volume b {top} {bottom}", value=(top, bottom))
            self.refused(NotName, judged, head + f"volume c {top} {bottom}", name="c")

    def test_long_integers(self):
        head = "space 1\nsolid a of and 2 ge 2 -1 le 1 -3\n"
        long = "1" + "0" * 998 + "1"
        self.same(judged(head + f"volume a {long} 1\neuler a -{long}\nparts a {long}\nholds a {long} 2"), (False,) * 4)
        for line, word in ((f"volume a {long}1 1", 2), (f"volume a 1 {long}1", 3), (f"euler a -{long}1", 2),
                           (f"parts a {long}1", 2),
                           (f"holds a 1 {long}1", 3)):
            self.refused(NotText, judged, head + line, line=2, word=word)

    def test_errors_in_their_sequence(self):
        dots = "solid a of or 31 " + " ".join(f"eq 1 -{k}" if k else "eq 1 0" for k in range(31))
        head = "space 1\n" + dots + "\nsolid b copies 2 99 a\nsolid c of and 0\nsolid d moved 99 a\n"
        self.same([outcome[0] for outcome in build(read_history(head[:-1]))], ["form", "great", "form", "form"])
        for claim in ("empty b", "not volume b 0 1", "parts b 5", "euler b 5", "within c b", "holds b 0 1",
                      "within a d", "apart a d"):
            self.refused(TooGreat, judged, head + "all c\n" + claim, most=60)
            # What is wrong with a later claim comes ahead of what is too great.
            self.refused(NotName, judged, head + claim + "\nempty q", name="q")
            self.refused(NotPoint, judged, head + claim + "\nholds a 2 2\nempty q", place=-2)
            self.refused(NotNumber, judged, head + claim + "\nvolume a 2 2\nholds a 2 2", value=(2, 2))
            self.refused(NotText, judged, head + claim + "\nempty q\nvolume a 2", line=7, word=3)
        self.refused(NotName, judged, head + "within q r", name="q")
        self.refused(NotName, judged, head + "within a r", name="r")
        self.refused(NotName, judged, head + "holds q 2 2", name="q")
        self.refused(NotPoint, judged, head + "holds a 1 0", place=1)
        self.refused(NotName, judged, head + "parts q 2", name="q")
        self.same(judged(head + "equal a d\nnot equal a a"), (False, False))

    def test_like_is_so(self):
        random = Random(495)
        for dimension in (1, 2):
            for value in some_histories(dimension, 12, 5, QUICK, 496):
                names = [name for name, _ in value[2]]
                lines, wanted = [], []
                for _ in range(8):
                    one, other = random.choice(names), random.choice(names)
                    point = tuple(random.randint(-2, 2) for _ in range(dimension)) + (1,)
                    claim = random.choice([("empty", one), ("all", one), ("bounded", one), ("within", one, other),
                                           ("equal", one, other), ("apart", one, other), ("holds", one, point)])
                    try:
                        so = is_so(value, claim)
                    except TooGreat:
                        continue
                    words = [str(own) if not isinstance(own, tuple) else " ".join(map(str, own)) for own in claim]
                    is_denied = random.random() < 0.5
                    lines.append(("not " if is_denied else "") + " ".join(words))
                    wanted.append(so != is_denied)
                self.same(judged("\n".join([history_text(value)] + lines)), tuple(wanted))
        self.assertIsNotNone(check_history((1, (), (("a", ("of", box(1))),))))


if __name__ == "__main__":
    unittest.main()
