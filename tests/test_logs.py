"""[26], [27], and [2] as far as it speaks of them: coming up from logs, logs cut short, texts that are no logs."""

import copy
import random
import unittest

from forerun.errors import ForerunError, NoLog
from forerun.house import House
from forerun.logs import come_up, cut_short
from forerun.ways import Way
from making import Maker, own_deal, own_line, own_lines, own_log, own_mark, own_papers

MOST = 10 ** 30
TOP = 10 ** 29
A, B, C = ("a", 0), ("ab", -1), ("silver", MOST)
TABLE = [(A, 7), (C, -2)]
GAVE = (("done", (4, 0)), [], [(A, 0), (B, -MOST)])
SAID = (("done", (MOST,)), [(A, 1)], [])
NONE = (("done", ()), [], [])
OFFS = [(("off", why), [], []) for why in ("told", "great", "nought")]
MARK = "mark"
# From each rank and table the parts behind the first mark.
LOGS = [
    (0, [], []),
    (0, TABLE, []),
    (TOP, TABLE, []),
    (0, [], [NONE]),
    (0, TABLE, [GAVE, SAID]),
    (5, TABLE, [MARK]),
    (5, TABLE, [MARK, MARK, NONE, MARK, MARK]),
    (0, TABLE, [GAVE, MARK, SAID, OFFS[0], MARK, OFFS[1], OFFS[2]]),
    (40, [], [SAID, OFFS[0], GAVE, MARK]),
    (TOP - 2, TABLE, [GAVE, SAID, NONE]),
    (TOP - 1, TABLE, [GAVE, MARK, SAID]),
    (TOP, [], [GAVE]),
]


def last_mark(lines):
    return max(at for at, line in enumerate(lines) if line.startswith("mark "))


class ComeUp(unittest.TestCase):
    def test_a_mark_alone(self):
        self.assertEqual(come_up("mark 0 ; 0199\n"), (0, [], []))
        self.assertEqual(come_up(own_log([own_mark(12, TABLE)])), (12, TABLE, []))

    def test_deals_and_marks(self):
        log = own_log([
            own_line("mark 3 ; a 0 7"), own_line("deal 3 done 4 ; a 0 0 b -1 5"), own_line("mark 4 ; b -1 5"),
            own_line("deal 4 off great ;"), own_line("deal 5 done ; a 2 2 b -1 6"),
        ])
        told = [(3, ("done", (4,))), (4, ("off", "great")), (5, ("done", ()))]
        self.assertEqual(come_up(log), (6, [(("a", 2), 2), (("b", -1), 6)], told))

    def test_all_of_them(self):
        for parts in LOGS:
            lines, ups = own_lines(*parts)
            self.assertEqual(come_up(own_log(lines)), ups[-1])

    def test_behind_a_deal_of_the_highest_rank(self):
        self.assertEqual(come_up(own_log([own_mark(TOP, []), own_deal(TOP, SAID)])), (TOP + 1, [], [(TOP, SAID[0])]))
        lines = [own_mark(TOP - 1, TABLE), own_deal(TOP - 1, NONE), own_mark(TOP, TABLE), own_deal(TOP, OFFS[0])]
        self.assertEqual(come_up(own_log(lines))[0], TOP + 1)
        self.assertRaises(NoLog, come_up, own_log(lines + [own_mark(TOP + 1, TABLE)]))
        self.assertRaises(NoLog, come_up, own_log(lines + [own_deal(TOP + 1, NONE)]))

    def test_a_last_line_without_its_line_feed(self):
        for parts in LOGS:
            lines, ups = own_lines(*parts)
            for more in ["x", " ", "mark", "mark 0 ;", "mark 0 ; 0199", "\t", lines[-1], own_deal(ups[-1][0], GAVE)]:
                self.assertEqual(come_up(own_log(lines) + more), ups[-1])
                self.assertEqual(cut_short(own_log(lines) + more), cut_short(own_log(lines)))
            if len(lines) > 1:
                self.assertEqual(come_up(own_log(lines)[:-1]), ups[-2])

    def test_cut_at_each_sign(self):
        for parts in LOGS:
            lines, ups = own_lines(*parts)
            log = own_log(lines)
            for at in range(len(log) + 1):
                whole = log[:at].count("\n")
                if whole == 0:
                    self.assertRaises(NoLog, come_up, log[:at])
                    self.assertRaises(NoLog, cut_short, log[:at])
                else:
                    self.assertEqual(come_up(log[:at]), ups[whole - 1])
                    short = own_log(lines[last_mark(lines[:whole]):whole])
                    self.assertEqual(cut_short(log[:at]), short)

    def test_gifts_are_laid_one_after_the_other(self):
        lines = [own_mark(0, [(A, 1)])]
        for rank, worth in enumerate([5, 0, 6, 0, 0, -3]):
            lines.append(own_deal(rank, (("done", ()), [], [(A, worth)])))
            self.assertEqual(come_up(own_log(lines))[:2], (rank + 1, [(A, worth)] if worth else []))

    def test_papers_of_made_up_dealings(self):
        maker = Maker(32951280099)
        for k in range(60):
            texts = [maker.dealing(8)[0] for each in range(maker.chance.randrange(9))]
            papers, tables = own_papers(texts, maker.table())
            parts = [part for paper in papers for part in ([paper, MARK] if maker.chance.randrange(2) else [paper])]
            rank = maker.one_of([0, 7, TOP - 20])
            lines, ups = own_lines(rank, tables[0], parts)
            told = [(rank + at, paper[0]) for at, paper in enumerate(papers)]
            self.assertEqual(come_up(own_log(lines)), (rank + len(papers), tables[-1], told))

    def test_many_lines(self):
        parts = [(("done", (k,)), [], [(("a", k + j), k - 150) for j in range(20)]) for k in range(299)]
        for many in (1, 50, 300):
            marked = [each for k, part in enumerate(parts) for each in ([part, MARK] if k % many == 0 else [part])]
            lines, ups = own_lines(0, TABLE, marked)
            self.assertEqual(come_up(own_log(lines)), ups[-1])


class CutShort(unittest.TestCase):
    def test_all_of_them(self):
        for parts in LOGS:
            lines, ups = own_lines(*parts)
            self.assertEqual(cut_short(own_log(lines)), own_log(lines[last_mark(lines):]))

    def test_rank_and_table_stay_and_told_is_what_stands_behind_the_mark(self):
        for parts in LOGS:
            lines, ups = own_lines(*parts)
            rank, table, told = come_up(cut_short(own_log(lines)))
            self.assertEqual((rank, table), ups[-1][:2])
            self.assertEqual(told, ups[-1][2][len(ups[last_mark(lines)][2]):])

    def test_one_that_is_short_already(self):
        for parts in LOGS:
            log = own_log(own_lines(*parts)[0])
            self.assertEqual(cut_short(cut_short(log)), cut_short(log))
            if MARK not in parts[2]:
                self.assertEqual(cut_short(log), log)

    def test_a_shelf_or_a_line_that_only_looks_like_a_mark(self):
        lines = [own_mark(0, [(("mark", 1), 1)]), own_deal(0, (("done", ()), [], [(("mark", 0), 2)]))]
        self.assertEqual(cut_short(own_log(lines)), own_log(lines))
        self.assertEqual(cut_short(own_log(lines) + own_mark(1, [])), own_log(lines))
        self.assertEqual(cut_short(own_log(lines) + "mark 1 ;"), own_log(lines))

    def test_two_marks_at_one_place(self):
        lines = [own_mark(0, TABLE), own_mark(0, TABLE)]
        self.assertEqual(cut_short(own_log(lines)), own_log(lines[1:]))


class NoLogs(unittest.TestCase):
    def refused(self, text):
        for asked in (come_up, cut_short, lambda text: House(text, 1, Way())):
            with self.assertRaises(NoLog, msg=text) as caught:
                asked(text)
            self.assertIsInstance(caught.exception, ForerunError)

    def lines_refused(self, lines):
        """Refused with a last line that lacks its line feed, too."""
        self.refused(own_log(lines))
        self.refused(own_log(lines) + "more")

    def test_no_whole_line(self):
        for text in ["", " ", "mark 0 ; 0199", "mark", "x", "mark 0 ; 0199 ", "mark 0 ; 0199\t", own_deal(0, NONE)]:
            self.refused(text)

    def test_empty_lines(self):
        mark, deal = own_mark(0, TABLE), own_deal(0, GAVE)
        for lines in [[""], ["", ""], ["", mark], [mark, ""], [mark, "", deal], [mark, deal, ""], [mark, "", "", deal]]:
            self.lines_refused(lines)
        self.refused("\n" + mark)

    def test_a_first_line_that_is_no_mark(self):
        for deal in [own_deal(0, NONE), own_deal(0, OFFS[0])]:
            self.lines_refused([deal])
            self.lines_refused([deal, own_mark(1, [])])
            self.lines_refused([deal, own_mark(0, [])])
            self.lines_refused([deal, own_mark(1, []), own_deal(1, NONE)])

    def test_the_rank_of_the_first_deal(self):
        for rank in (0, 1, 7, TOP):
            for wrong in (0, 1, 2, 6, 8, TOP - 1, TOP):
                if wrong != rank:
                    self.lines_refused([own_mark(rank, TABLE), own_deal(wrong, NONE)])
                    self.lines_refused([own_mark(rank, TABLE), own_mark(wrong, TABLE)])

    def whole_log(self):
        """Lines with deals and marks between; the deals all tell something else, so that none can stand for another."""
        gives = [(("done", ()), [], [(A, 3)]), (("done", (1,)), [], [(B, 4)])]
        return own_lines(3, TABLE, [GAVE, SAID, MARK, OFFS[0], gives[0], MARK, MARK, gives[1], NONE, MARK, OFFS[2]])

    def test_a_line_too_few(self):
        lines, ups = self.whole_log()
        for at, line in enumerate(lines[:-1]):
            left = lines[:at] + lines[at + 1:]
            if line.startswith("deal"):
                self.lines_refused(left)
            elif at > 0:
                # A mark between changes nothing.
                self.assertEqual(come_up(own_log(left)), ups[-1])

    def test_a_line_too_many(self):
        lines, ups = self.whole_log()
        for at, line in enumerate(lines):
            doubled = lines[:at + 1] + lines[at:]
            if line.startswith("deal"):
                self.lines_refused(doubled)
            else:
                self.assertEqual(come_up(own_log(doubled)), ups[-1])

    def test_lines_out_of_turn(self):
        lines, ups = self.whole_log()
        for at in range(len(lines) - 1):
            if lines[at] != lines[at + 1]:
                self.lines_refused(lines[:at] + [lines[at + 1], lines[at]] + lines[at + 2:])

    def test_a_mark_of_another_rank(self):
        lines, ups = self.whole_log()
        for at in range(1, len(lines)):
            rank, table, told = ups[at - 1]
            self.assertEqual(come_up(own_log(lines[:at] + [own_mark(rank, table)] + lines[at:])), ups[-1])
            for wrong in (0, 3, rank - 1, rank + 1, rank + 2, TOP):
                if wrong != rank:
                    self.lines_refused(lines[:at] + [own_mark(wrong, table)] + lines[at:])
                    self.lines_refused(lines[:at] + [own_mark(wrong, table)])

    def test_a_mark_of_another_table(self):
        lines, ups = self.whole_log()
        for at in range(1, len(lines)):
            rank, table, told = ups[at - 1]
            worths = dict(table)
            for place in [A, B, C, ("z", 0)]:
                other = {place: worths.get(place, 0) + 1}
                wrong = sorted({**worths, **other}.items())
                self.lines_refused(lines[:at] + [own_mark(rank, wrong)] + lines[at:])
                self.lines_refused(lines[:at] + [own_mark(rank, wrong)])
            for gone in worths:
                wrong = [row for row in table if row[0] != gone]
                self.lines_refused(lines[:at] + [own_mark(rank, wrong)] + lines[at:])

    def test_the_first_mark_of_another_rank_or_table(self):
        lines, ups = self.whole_log()
        for rank, table in [(2, TABLE), (4, TABLE), (0, TABLE), (TOP, TABLE), (3, []), (3, TABLE[:1]), (3, [(C, 2)])]:
            self.lines_refused([own_mark(rank, table)] + lines[1:])
        # What the first deal gives anew may have been another one ahead of it.
        self.assertEqual(come_up(own_log([own_mark(3, TABLE[1:])] + lines[1:])), ups[-1])

    def test_a_whole_line_that_is_none(self):
        lines, ups = self.whole_log()
        for at in range(len(lines) + 1):
            rank = ups[at - 1][0] if at else 3
            for wrong in [
                "", " ", "\t", "x", "mark", own_line(f"deal {rank} done"), f"deal {rank} done ; 0000",
                own_line("mark 3 ; a 1 0"), own_line(f"mark {rank} ; b 1 2 a 1 2"),
                own_line(f"deal {rank} off told ; a 1 2"), lines[at - 1] + " ", " " + lines[at - 1],
                lines[at - 1] + "\r", lines[at - 1][:-1],
            ]:
                self.lines_refused(lines[:at] + [wrong] + lines[at:])
                self.lines_refused(lines[:at] + [wrong])

    def test_one_sign_of_a_whole_line_exchanged(self):
        log, chance = own_log(self.whole_log()[0]), random.Random(53316291173)
        for at, sign in enumerate(log[:-1]):
            # The feeds between lines too: then two lines are one.
            other = chance.choice([each for each in "abcmd ;0123456789-~" if each != sign])
            self.refused(log[:at] + other + log[at + 1:])

    def test_a_line_feed_amid_a_line(self):
        log = own_log(self.whole_log()[0])
        for at in range(len(log)):
            self.refused(log[:at] + "\n" + log[at:])

    def test_lines_parted_by_other_signs(self):
        lines, ups = self.whole_log()
        for between in ["\r\n", "\r", " \n", "\n ", "\x0b", "\x0c", "\u2028", "\x85", "\n\n", " ", ""]:
            self.refused(between.join(lines) + "\n")

    def test_made_up_rows_of_lines(self):
        chance, seen = random.Random(86267571272), {True: 0, False: 0}
        for k in range(1500):
            entries = [(MARK, 0, [])] + [
                (MARK, chance.randrange(3), [(A, 1)][:chance.randrange(2)]) if chance.randrange(2) else
                ("deal", chance.randrange(3), [(A, chance.randrange(2))][:chance.randrange(2)]) for each in range(k % 5)
            ]
            lines = [own_mark(rank, rows) if kind == MARK else own_deal(rank, (("done", ()), [], rows))
                     for kind, rank, rows in entries]
            rank, table, right = 0, [], True
            for kind, at, rows in entries:
                right = right and at == rank and (kind == "deal" or rows == table)
                if kind == "deal":
                    rank, table = rank + 1, [row for row in rows if row[1]] if rows else table
            seen[right] += 1
            if right:
                self.assertEqual(come_up(own_log(lines))[:2], (rank, table))
            else:
                self.lines_refused(lines)
        self.assertGreater(min(seen.values()), 300)


class Own(unittest.TestCase):
    """[2]: lists told are the asker's own; asked again, the same is told."""

    def test_each_list_told_is_the_askers_own(self):
        for parts in LOGS:
            log = own_log(own_lines(*parts)[0])
            told = [come_up(log), come_up(log)]
            expected = copy.deepcopy(told[0])
            lists = [part for one in told for part in one[1:]]
            self.assertEqual(len({id(one) for one in lists}), 4)
            for one in lists[:2]:
                one.append("more")
            self.assertEqual([told[1], come_up(log)], [expected] * 2)

    def test_arguments_by_their_names_and_kinds_told(self):
        log = own_log(own_lines(0, TABLE, [GAVE])[0])
        told = come_up(text=log)
        parts = (told, told[0], told[1], told[1][0], told[2], told[2][0], told[2][0][0], told[2][0][1])
        self.assertEqual([type(part) for part in parts], [tuple, int, list, tuple, list, tuple, int, tuple])
        self.assertIs(type(cut_short(text=log)), str)


if __name__ == "__main__":
    unittest.main()
