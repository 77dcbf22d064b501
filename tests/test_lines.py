"""[25], and [2] as far as it speaks of it: lines written, and read again."""

import copy
import random
import unittest

from forerun.lines import deal_line, line_read, mark_line
from making import Maker, own_deal, own_line, own_mark, own_papers

MOST = 10 ** 30
TOP = 10 ** 29
A, B, C = ("a", 0), ("ab", -1), ("b", 7)
# Sayings, gifts and tables: none, few, many, worths of 0 among the gifts, both ends of the range.
SAYINGS = [(), (0,), (-1,), (5, 5), (MOST, -MOST, 0), tuple(range(-150, 150))]
GIFTS = [
    [], [(A, 0)], [(A, -3)], [(A, 0), (B, 0), (C, 2)], [(("mark", -MOST), MOST), (("silver", MOST), -MOST)],
    [(("a", 2), 1), (("a", 10), 1), (("aa", -10), 1), (("aa", -2), 1)],
    [(("ab"[k // 150], k), k) for k in range(300)],
]
TABLES = [[(place, worth) for place, worth in gifts if worth != 0] for gifts in GIFTS]
RANKS = [0, 1, 9, 10, 40, TOP - 1, TOP]
WHYS = ["told", "great", "nought"]


def papers_of_all_kinds():
    papers = [(("done", sayings), [(C, 9)], gifts) for sayings in SAYINGS for gifts in GIFTS]
    return papers + [(("off", why), notes, []) for why in WHYS for notes in ([], [(A, 1), (C, 0)])]


class Written(unittest.TestCase):
    def test_checks_reckoned_by_hand(self):
        # 109 + 2 * 97 + 3 * 114 + 4 * 107 + 5 * 32 + 6 * 48 + 7 * 32 + 8 * 59 = 2217 = 2 * 1009 + 199
        self.assertEqual(mark_line(0, []), "mark 0 ; 0199")
        # 100 + 202 + 291 + 432 + 160 + 288 + 224 + 800 + 999 + 1100 + 1111 + 384 + 767 = 6858 = 6 * 1009 + 804
        self.assertEqual(deal_line(0, (("done", ()), [], [])), "deal 0 done ; 0804")

    def body(self, line, body):
        self.assertEqual(line, own_line(body))

    def test_bodies_of_dealings_done(self):
        self.body(deal_line(4, (("done", ()), [], [])), "deal 4 done ;")
        self.body(deal_line(4, (("done", (7,)), [], [])), "deal 4 done 7 ;")
        self.body(deal_line(0, (("done", (7, -3, 0)), [], [])), "deal 0 done 7 -3 0 ;")
        self.body(deal_line(12, (("done", ()), [], [(A, 0)])), "deal 12 done ; a 0 0")
        self.body(deal_line(12, (("done", (0,)), [], [(A, 5), (B, -2)])), "deal 12 done 0 ; a 0 5 ab -1 -2")
        paper = (("done", (MOST, -MOST)), [], [(("silver", -MOST), -MOST), (("silver", MOST), MOST)])
        most = "1" + "0" * 30
        body = f"deal 1{'0' * 29} done {most} -{most} ; silver -{most} -{most} silver {most} {most}"
        self.body(deal_line(TOP, paper), body)

    def test_bodies_of_dealings_broken_off(self):
        for why in WHYS:
            self.body(deal_line(0, (("off", why), [], [])), f"deal 0 off {why} ;")
            self.body(deal_line(TOP, (("off", why), [], [])), f"deal {TOP} off {why} ;")

    def test_notes_are_not_told(self):
        for paper in papers_of_all_kinds():
            self.assertEqual(deal_line(3, paper), deal_line(3, (paper[0], [], paper[2])))

    def test_bodies_of_marks(self):
        self.body(mark_line(0, []), "mark 0 ;")
        self.body(mark_line(TOP, []), f"mark {TOP} ;")
        self.body(mark_line(7, [(A, 5), (B, -2), (C, MOST)]), f"mark 7 ; a 0 5 ab -1 -2 b 7 {MOST}")
        self.body(mark_line(0, [(("mark", 2), 1), (("deal", 2), 1)][::-1]), "mark 0 ; deal 2 1 mark 2 1")

    def test_all_of_them(self):
        for rank in RANKS:
            for paper in papers_of_all_kinds():
                self.assertEqual(deal_line(rank, paper), own_deal(rank, paper))
            for table in TABLES:
                self.assertEqual(mark_line(rank, table), own_mark(rank, table))

    def test_checks_with_noughts_ahead(self):
        chance, seen = random.Random(7778742049), {}
        for k in range(12000):
            rank = chance.randrange(TOP)
            line = mark_line(rank, [])
            self.assertEqual(line, own_mark(rank, []))
            self.assertEqual(line_read(line), ("mark", rank, []))
            seen[line.split(" ")[-1]] = True
        for check in ("0000", "0007", "0042", "0999", "1000", "1008"):
            self.assertIn(check, seen)
        self.assertEqual({len(check) for check in seen}, {4})

    def test_long_bodies(self):
        for many in range(240, 260):
            # From one saying of one figure to the next the body grows by two signs: around 1008 signs, around 2016 too.
            for times in (2, 4):
                paper = (("done", (3,) * (many * times)), [], [])
                self.assertEqual(deal_line(5, paper), own_deal(5, paper))
                paper = (("done", (33,) + (3,) * (many * times)), [], [])
                self.assertEqual(deal_line(5, paper), own_deal(5, paper))

    def test_where_the_factors_begin_anew(self):
        lines = [deal_line(5, (("done", (3,) * 600), [], [])), deal_line(5, (("done", (3,) * 599 + (5,)), [], []))]
        # The sign that differs is at place 12 + 2 * 599: its factor is 1 + 1210 % 1008, and 2 * 203 is 406.
        self.assertEqual((int(lines[1][-4:]) - int(lines[0][-4:])) % 1009, 406)


class Read(unittest.TestCase):
    def again(self, line, told):
        self.assertEqual(line_read(line), told)
        written = mark_line(*told[1:]) if told[0] == "mark" else deal_line(told[1], (told[2], [], told[3]))
        self.assertEqual(written, line)

    def test_by_hand(self):
        self.assertEqual(line_read("mark 0 ; 0199"), ("mark", 0, []))
        self.assertEqual(line_read("deal 0 done ; 0804"), ("deal", 0, ("done", ()), []))

    def test_deals(self):
        self.again(own_line("deal 4 done ;"), ("deal", 4, ("done", ()), []))
        self.again(own_line("deal 4 done 7 -3 0 ;"), ("deal", 4, ("done", (7, -3, 0)), []))
        self.again(own_line("deal 0 done 2 ; a 0 0 ab -1 5"), ("deal", 0, ("done", (2,)), [(A, 0), (B, 5)]))
        for why in WHYS:
            self.again(own_line(f"deal 10 off {why} ;"), ("deal", 10, ("off", why), []))

    def test_marks(self):
        self.again(own_line("mark 4 ;"), ("mark", 4, []))
        self.again(own_line("mark 40 ; a 0 1 ab -1 -5 b 7 2"), ("mark", 40, [(A, 1), (B, -5), (C, 2)]))

    def test_all_of_them(self):
        for rank in RANKS:
            for paper in papers_of_all_kinds():
                self.again(deal_line(rank, paper), ("deal", rank, paper[0], paper[2]))
            for table in TABLES:
                self.again(mark_line(rank, table), ("mark", rank, table))

    def test_places_are_in_order_by_shelf_and_then_by_number(self):
        rows = [(("a", -10), 1), (("a", -2), 1), (("a", 2), 1), (("a", 10), 1), (("aa", -30), 1), (("b", -40), 1)]
        self.again(mark_line(0, rows), ("mark", 0, rows))
        self.again(deal_line(0, (("done", ()), [], rows)), ("deal", 0, ("done", ()), rows))

    def test_shelves_called_like_the_words_of_lines(self):
        rows = [((shelf, 0), 1) for shelf in ["deal", "done", "great", "mark", "nought", "told"]]
        self.again(mark_line(0, rows), ("mark", 0, rows))
        self.again(deal_line(0, (("done", ()), [], rows)), ("deal", 0, ("done", ()), rows))

    def test_papers_of_made_up_dealings(self):
        maker = Maker(2971215073)
        for k in range(60):
            papers, tables = own_papers([maker.dealing(12)[0] for each in range(5)], maker.table())
            for rank, paper in enumerate(papers):
                self.again(deal_line(rank, paper), ("deal", rank, paper[0], paper[2]))
                self.again(mark_line(rank, tables[rank]), ("mark", rank, tables[rank]))

    def test_made_up_sayings_and_gifts(self):
        chance = random.Random(4807526976)
        for k in range(400):
            worths = [0, -1, 1] + [chance.randrange(-(10 ** size), 10 ** size + 1) for size in range(31)]
            shelves = ["".join(chance.choices("abyz", k=chance.randrange(1, 7))) for each in range(8)]
            gifts = {(chance.choice(shelves), chance.choice(worths)): chance.choice(worths) for each in range(15)}
            rows, sayings = sorted(gifts.items()), tuple(chance.sample(worths, chance.randrange(12)))
            rank = chance.choice([k, chance.randrange(TOP)])
            line = own_deal(rank, (("done", sayings), [], rows))
            self.again(line, ("deal", rank, ("done", sayings), rows))
            table = [row for row in rows if row[1] != 0]
            self.again(own_mark(rank, table), ("mark", rank, table))


class Own(unittest.TestCase):
    """[2]: what is handed in stays, lists told are the asker's own."""

    def test_what_is_handed_in_stays(self):
        for paper in papers_of_all_kinds():
            before = copy.deepcopy(paper)
            deal_line(0, paper)
            self.assertEqual(paper, before)
        for table in TABLES:
            before = copy.deepcopy(table)
            mark_line(0, table)
            self.assertEqual(table, before)

    def test_each_list_told_is_the_askers_own(self):
        for body in ["mark 0 ;", "mark 0 ; a 1 2", "deal 0 off told ;", "deal 0 done ;", "deal 0 done 1 ; a 1 2"]:
            line = own_line(body)
            told = [line_read(line), line_read(line)]
            self.assertIsNot(told[0][-1], told[1][-1])
            expected = copy.deepcopy(told[0])
            told[0][-1].append((A, 9))
            self.assertEqual([told[1], line_read(line)], [expected] * 2)

    def test_arguments_by_their_names_and_kinds_told(self):
        line = deal_line(rank=2, paper=(("done", (3,)), [], [(A, 4)]))
        told = line_read(text=line)
        parts = (line, told, told[0], told[1], told[2], told[2][1], told[3], told[3][0], told[3][0][0], told[3][0][1])
        self.assertEqual([type(part) for part in parts], [str, tuple, str, int, tuple, tuple, list, tuple, tuple, int])
        told = line_read(text=mark_line(rank=2, table=[(A, 4)]))
        kinds = [type(part) for part in (told, told[0], told[1], told[2], told[2][0], told[2][0][0])]
        self.assertEqual(kinds, [tuple, str, int, list, tuple, tuple])


if __name__ == "__main__":
    unittest.main()
