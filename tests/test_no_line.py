"""[25]: texts that are no lines."""

import itertools
import random
import re
import unittest

from forerun.errors import ForerunError, NoLine
from forerun.lines import line_read
from making import own_line

MOST = 10 ** 30
TOP = 10 ** 29
SIXTEEN = "take give let say off if else end as plus minus times over rest under same".split()
SIGNS = [chr(number) for number in range(32, 127)]
BODIES = [
    "mark 0 ;",
    "mark 12 ; a 0 5",
    f"mark {TOP} ; a -3 1 a 0 5 silver {MOST} -{MOST}",
    "deal 0 done ;",
    "deal 7 done 4 -2 0 ;",
    "deal 7 done 4 -2 ; a -3 0 a 0 5 ab 1 -7",
    f"deal {TOP} done ; z 1 2",
    "deal 3 off told ;",
    "deal 30 off great ;",
    "deal 0 off nought ;",
]
NUMERAL = "(?:0|-?[1-9][0-9]*)"
ROWS = f"(?: [a-z]+ {NUMERAL} {NUMERAL})*"
FORMS = f"deal {NUMERAL} done(?: {NUMERAL})* ;{ROWS}|deal {NUMERAL} off (?:told|great|nought) ;|mark {NUMERAL} ;{ROWS}"


def own_is_line(text):
    """Whether a text is a line: its form by a pattern, and then what no pattern tells."""
    body = text[:-5]
    if text != own_line(body) or not re.fullmatch(FORMS, body):
        return False
    words, tail = body.split(" "), body.split(" ; ")[1].split(" ") if " ; " in body else []
    numbers = [int(word) for word in words if re.fullmatch(NUMERAL, word)]
    places = list(zip(tail[::3], [int(word) for word in tail[1::3]]))
    named = all(len(shelf) <= 6 and shelf not in SIXTEEN for shelf in tail[::3])
    rising = all(one < other for one, other in zip(places, places[1:]))
    full = words[0] == "deal" or "0" not in tail[2::3]
    return all(abs(number) <= MOST for number in numbers) and 0 <= numbers[0] <= TOP and named and rising and full


class NoLines(unittest.TestCase):
    def refused(self, text):
        self.assertFalse(own_is_line(text), text)
        with self.assertRaises(NoLine, msg=text) as caught:
            line_read(text)
        self.assertIsInstance(caught.exception, ForerunError)

    def bodies_refused(self, *bodies):
        """Refused with a check that is right, too."""
        for body in bodies:
            self.refused(own_line(body))
            self.refused(body)

    def held(self, text):
        """Refused just where it is none."""
        if own_is_line(text):
            line_read(text)
        else:
            self.refused(text)

    def test_these_are_lines(self):
        for body in BODIES:
            self.assertTrue(own_is_line(own_line(body)))
            line_read(own_line(body))

    def test_nothing_or_next_to_nothing(self):
        for text in ["", " ", "  ", "0000", " 0000", "  0000", ";", "; 0059", "mark", "deal", "\n", "\t", "mark 0"]:
            self.refused(text)
        self.bodies_refused("", " ", ";", " ;", "; ;", "mark", "deal", "mark ;", "deal ;", "0", "0 ;", "0199", "mark 0")

    def test_each_word_left_out(self):
        for body in BODIES:
            words = own_line(body).split(" ")
            for at in range(len(words)):
                self.refused(" ".join(words[:at] + words[at + 1:]))
            words = body.split(" ")
            for at in range(len(words)):
                # Sayings may be fewer: such a text is a line.
                self.held(own_line(" ".join(words[:at] + words[at + 1:])))

    def test_each_word_doubled(self):
        for body in BODIES:
            words = own_line(body).split(" ")
            for at in range(len(words)):
                self.refused(" ".join(words[:at + 1] + words[at:]))
            words = body.split(" ")
            for at in range(len(words)):
                self.held(own_line(" ".join(words[:at + 1] + words[at:])))

    def test_each_word_exchanged(self):
        others = "deal mark done off told great nought ; ;; a zz say x1 0 -1 5 +5 05 -0 abcdefg A .".split()
        others += ["", "\n"] + [str(number) for number in (MOST, MOST + 1, -MOST - 1, TOP, TOP + 1)]
        for body in BODIES:
            for at, word in enumerate(body.split(" ")):
                for other in others:
                    words = body.split(" ")
                    words[at] = other
                    self.held(own_line(" ".join(words)))
                    if other != word:
                        self.refused(" ".join(words) + own_line(body)[-5:])

    def test_words_out_of_their_place(self):
        self.bodies_refused(
            "0 mark ;", "mark ; 0", "; mark 0", "mark 0 ; ;", "mark 0 ; ; a 1 2", "mark 0 a 1 2 ;", "mark 0 a 1 2",
            "mark 0 ; a 1 2 ;", "mark 0 done ;", "mark 0 off told ;", "mark 0 1 ;",
        )
        self.bodies_refused(
            "deal 0 ;", "deal ; 0 done", "deal done 0 ;", "done 0 deal ;", "deal 0 done", "deal 0 done ; ;",
            "deal 0 done 1", "deal 0 done ; 1", "deal 0 done a 1 2 ;", "deal 0 done ; a 1 2 ; b 1 2", "deal 0 0 done ;",
        )
        self.bodies_refused(
            "deal 0 off", "deal 0 off ;", "deal 0 off told", "deal 0 off ; told", "deal 0 told off ;", "deal 0 told ;",
            "deal 0 off told told ;", "deal 0 off 1 ;", "deal 0 done told ;", "deal 0 off done ;",
        )

    def test_words_miswritten(self):
        self.bodies_refused(
            "Deal 0 done ;", "MARK 0 ;", "deals 0 done ;", "mark0 ;", "mark 0;", "deal 0 done;", "deal 0 doned ;",
            "mar 0 ;", "deal 0 don ;", "deal 0 Off told ;", "deal 0 offtold ;", "deal 0 done :", "mark 0 ;;",
        )

    def test_of_three_words_each(self):
        for kind in ("mark 0", "deal 0 done", "deal 0 done 4"):
            self.bodies_refused(*[f"{kind} ; {rest}" for rest in [
                "a", "a 1", "a 1 2 b", "a 1 2 b 3", "1 2 3", "a b 1", "a 1 b", "1 a 2", "a 1 2 3", "a 1 2 3 4",
                "a 1 2 3 4 5", "a a 1 2",
            ]])

    def test_wrong_checks(self):
        for body in BODIES:
            right = int(own_line(body)[-4:])
            for wrong in range(2100):
                if wrong != right:
                    self.assertRaises(NoLine, line_read, f"{body} {wrong:04d}")

    def test_checks_of_other_forms(self):
        for body in BODIES:
            right = own_line(body)[-4:]
            for wrong in [
                right[1:], right[:3], "0" + right, right + "0", str(int(right)) * (right < "1000"), "",
                "-" + right[1:], "+" + right[1:], right + " ", " " + right, "x" + right, right[:3] + "x", right + right,
                right + "\n", right + " " + right, str(int(right) + 1009), right[:3] + "\u0663", "O" + right[1:],
            ]:
                self.refused(f"{body} {wrong}")
            self.refused(body + right)
            self.refused(body + "\t" + right)
            self.refused(body + "\n" + right)

    def test_blanks_tabs_and_line_feeds(self):
        for body, extra in itertools.product(BODIES, [" ", "\t", "\n", "  ", "\r", "\x0b", "\u00a0"]):
            line = own_line(body)
            self.refused(extra + line)
            self.refused(line + extra)
            self.bodies_refused(extra + body, body + extra)
            for at, sign in enumerate(line):
                if sign == " ":
                    self.refused(line[:at] + extra + line[at:])
            for at, sign in enumerate(body):
                if sign == " ":
                    self.bodies_refused(body[:at] + extra + body[at:])
                    if extra != " ":
                        self.bodies_refused(body[:at] + extra + body[at + 1:])

    def test_two_lines(self):
        for one, other in itertools.product(BODIES, repeat=2):
            for between in ("\n", " ", ""):
                self.refused(own_line(one) + between + own_line(other))
                self.refused(own_line(one + between + other))
                self.refused(own_line(own_line(one) + between + own_line(other)))

    def test_ranks(self):
        others = ["-0", "00", "01", "007", "+1", "1.", "a", "", "1_0", "1e3", "0x1", "\u0661"]
        for rank in [-1, -TOP, TOP + 1, MOST, MOST + 1, -MOST] + others:
            for behind in ("done ;", "off told ;", "done 1 ; a 1 2"):
                self.bodies_refused(f"deal {rank} {behind}")
            self.bodies_refused(f"mark {rank} ;", f"mark {rank} ; a 1 2")
        for rank in [0, 1, 9, 10, TOP - 1, TOP]:
            self.assertEqual(line_read(own_line(f"mark {rank} ;")), ("mark", rank, []))
            self.assertEqual(line_read(own_line(f"deal {rank} off told ;")), ("deal", rank, ("off", "told"), []))

    def test_shelves(self):
        for shelf in SIXTEEN + ["abcdefg", "A", "aB", "a1", "1", "-", "a-b", "a_", "\u00e9", "", "a;", "\u0430"]:
            self.bodies_refused(f"mark 0 ; {shelf} 1 2", f"deal 0 done ; {shelf} 1 2", f"mark 0 ; a 1 2 {shelf} 1 2")

    def test_numbers(self):
        others = ["-0", "00", "05", "-05", "+5", "", "a", "-", "5-", "--5", "5.0", "1_0", "\u0665", "9" * 4000]
        for number in [MOST + 1, -MOST - 1] + others:
            for kind in ("mark 0", "deal 0 done"):
                self.bodies_refused(f"{kind} ; a {number} 2", f"{kind} ; a 1 {number}", f"{kind} ; a 1 2 b {number} 3")
            for behind in (" ;", " 2 ;", " ; a 1 2"):
                self.bodies_refused(f"deal 0 done {number}{behind}", f"deal 0 done 1 {number}{behind}")
        for number in [MOST, -MOST, MOST - 1]:
            self.assertEqual(line_read(own_line(f"deal 0 done {number} ;"))[2], ("done", (number,)))
            self.assertEqual(line_read(own_line(f"mark 0 ; a {number} {number}"))[2], [(("a", number), number)])

    def test_a_place_twice(self):
        for kind in ("mark 0", "deal 0 done", "deal 0 done 4"):
            self.bodies_refused(*[f"{kind} ; {rows}" for rows in [
                "a 1 2 a 1 2", "a 1 2 a 1 3", "a 0 1 a 1 2 a 1 2", "a 1 2 a 1 2 b 1 1", "a 1 2 b 1 2 a 1 2",
            ]])

    def test_places_out_of_order(self):
        for kind in ("mark 0", "deal 0 done", "deal 0 done 4"):
            self.bodies_refused(*[f"{kind} ; {rows}" for rows in [
                "b 1 2 a 1 2", "a 2 1 a 1 2", "a 10 1 a 9 1", "a 1 1 a -1 1", "a -1 1 a -2 1", "aa 1 1 a 2 1",
                "ab 1 1 aa 2 1", "a 1 1 c 1 1 b 1 1", "b 1 1 a 1 1 c 1 1", "a 1 1 a 3 1 a 2 1", "a 1 1 b 1 1 a 2 1",
            ]])
            line_read(own_line(f"{kind} ; a -2 1 a -1 1 a 9 1 a 10 1 aa -5 1 b -9 1"))

    def test_a_worth_of_0_in_a_mark(self):
        for rows in ["a 1 0", "a 0 0", "a 1 1 b 1 0", "a 1 0 b 1 1", "a 1 1 b 1 0 c 1 1"]:
            self.bodies_refused(f"mark 0 ; {rows}", f"mark 12 ; {rows}")
        self.assertEqual(line_read(own_line("deal 3 done ; a 1 0"))[3], [(("a", 1), 0)])
        self.assertEqual(line_read(own_line("mark 3 ; a 0 1"))[2], [(("a", 0), 1)])

    def test_behind_a_dealing_broken_off(self):
        for why in ["told", "great", "nought"]:
            for rest in ["a 1 2", "a 1 0", "a 1 2 b 1 2", "1", "a", ";", "told", ""]:
                self.bodies_refused(f"deal 0 off {why} ; {rest}")
        for why in ["", "tol", "toldd", "Told", "done", "off", "1", "nough", "great nought", "told 1", "1 told"]:
            self.bodies_refused(f"deal 0 off {why} ;")

    def test_one_sign_exchanged_at_each_place(self):
        for body in BODIES:
            line = own_line(body)
            for at, sign in enumerate(line):
                for other in SIGNS:
                    if other != sign:
                        self.assertRaises(NoLine, line_read, line[:at] + other + line[at + 1:])

    def test_one_sign_exchanged_in_a_long_line(self):
        chance = random.Random(12586269025)
        for body in ["deal 5 done" + " 3" * 1100 + " ;", "mark 0 ;" + "".join(f" a {k} {k}" for k in range(100, 280))]:
            line = own_line(body)
            self.assertGreater(len(line), 1500)
            line_read(line)
            for at, sign in enumerate(line):
                # Exchanged for a figure or a blank, more of it may still be told just so.
                for other in chance.sample("0123456789 ", 2) + chance.sample(SIGNS, 1):
                    if other != sign:
                        self.assertRaises(NoLine, line_read, line[:at] + other + line[at + 1:])

    def test_made_up_bodies(self):
        chance, seen = random.Random(20365011074), {True: 0, False: 0}
        for k in range(6000):
            words = chance.choice(BODIES).split(" ")
            for each in range(chance.randrange(1, 4)):
                at, other = chance.randrange(len(words)), chance.choice(chance.choice(BODIES).split(" "))
                words = chance.choice([
                    words[:at] + words[at + 1:], words[:at] + [other] + words[at:],
                    words[:at] + [other] + words[at + 1:], words + [other, "4", "2"],
                    words[:-3] + ["b", other, "1"] + words[-3:],
                ]) or [other]
            text = own_line(" ".join(words))
            self.held(text)
            seen[own_is_line(text)] += 1
        self.assertGreater(min(seen.values()), 300)

    def test_refused_the_same_each_time(self):
        for text in ["", "mark 0 ; 0198", own_line("mark 0 ; a 1 0")]:
            for k in range(3):
                self.refused(text)


if __name__ == "__main__":
    unittest.main()
