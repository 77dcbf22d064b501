"""[23], and [2] as far as it speaks of it: papers that meet, their rounds, their chain."""

import copy
import random
import unittest

from forerun.rounds import chain, meet, rounds
from forerun.runs import fed
from forerun.tables import laid_on
from making import Maker, code, made_up, own_meet, paper

MOST = 10 ** 30
A, B, C, D = ("a", 0), ("a", 1), ("b", 0), ("b", -MOST)
PLACES = [A, B, C, D, ("aa", 0), ("silver", MOST)]


def own_rounds(papers):
    """The round of each rank is how many papers the longest row of ranks has that rise to it, each meeting the next."""
    heights = []
    for rank, one in enumerate(papers):
        below = [heights[lower] + 1 for lower in range(rank) if own_meet(papers[lower], one)]
        heights.append(max(below, default=0))
    return [[rank for rank, height in enumerate(heights) if height == at] for at in sorted(set(heights))]


class Meet(unittest.TestCase):
    def meets(self, one, other, expected):
        self.assertIs(meet(one, other), expected)
        self.assertIs(meet(other, one), expected)

    def test_gifts_and_gifts(self):
        self.meets(paper([], [A]), paper([], [A]), True)
        self.meets(paper([], [A]), paper([], [B]), False)
        self.meets(paper([], [A, B]), paper([], [B, C]), True)
        self.meets(paper([], [A, D]), paper([], [B, C]), False)

    def test_gifts_and_notes(self):
        self.meets(paper([], [A]), paper([A], []), True)
        self.meets(paper([], [A, B]), paper([C, B], []), True)
        self.meets(paper([], [A]), paper([B, C], []), False)

    def test_notes_and_gifts(self):
        self.meets(paper([A], []), paper([], [A]), True)
        self.meets(paper([A, C], [D]), paper([], [B, C]), True)
        self.meets(paper([A, C], [D]), paper([], [B]), False)

    def test_notes_and_notes(self):
        self.meets(paper([A], []), paper([A], []), False)
        self.meets(paper([A, B, C], []), paper([C, B, A], []), False)
        self.meets(paper([A], [B]), paper([A], [C]), False)
        self.meets(paper([A], [B]), paper([A, B], [C]), True)

    def test_nothing_at_all(self):
        self.meets(paper(), paper(), False)
        self.meets(paper(), paper([A], [B]), False)

    def test_a_paper_and_itself(self):
        for one, expected in [
            (paper(), False), (paper([A, B], []), False), (paper([], [A]), True), (paper([A], [B]), True),
            (paper([A], [A]), True), (paper([A], [], ("off", "great")), False),
        ]:
            self.meets(one, one, expected)
            self.meets(one, copy.deepcopy(one), expected)

    def test_of_places_beside(self):
        for other in [("a", -1), ("aa", 0), ("b", 0), ("a", MOST)]:
            self.meets(paper([], [A]), paper([other], [other]), False)

    def test_worths_do_not_count(self):
        one, other = (("done", ()), [], [(A, 0)]), (("done", (4,)), [(A, 0)], [])
        self.meets(one, other, True)
        self.meets(one, (("off", "nought"), [(A, 9)], []), True)
        self.meets((("done", ()), [(A, 1)], []), (("done", ()), [(A, 1)], []), False)

    def test_a_place_noted_and_given_to(self):
        self.meets(paper([A], [A]), paper([A], []), True)
        self.meets(paper([A], [A]), paper([], [A]), True)
        self.meets(paper([A], [A]), paper([B], [B]), False)

    def test_made_up_papers(self):
        chance, seen = random.Random(14930352), {True: 0, False: 0}
        papers = made_up(chance, 60, PLACES)
        for one in papers:
            for other in papers:
                self.meets(one, other, own_meet(one, other))
                seen[own_meet(one, other)] += 1
        self.assertGreater(min(seen.values()), 400)

    def test_arguments_by_their_names(self):
        self.assertIs(meet(one=paper([], [A]), other=paper([A])), True)


class Rounds(unittest.TestCase):
    def puts(self, papers, told, linked):
        self.assertEqual((rounds(papers), chain(papers)), (told, linked))

    def test_no_papers(self):
        self.puts([], [], [])

    def test_one_paper(self):
        for one in [paper(), paper([A]), paper([], [A]), paper([A], [A])]:
            self.puts([one], [[0]], [0])

    def test_papers_that_all_meet(self):
        for one in [paper([], [A]), paper([A], [A]), paper([B], [A, C])]:
            for many in (2, 3, 40):
                self.puts([one] * many, [[rank] for rank in range(many)], list(range(many)))

    def test_papers_of_which_none_meet(self):
        for many in (2, 3, 40):
            self.puts([paper([A])] * many, [list(range(many))], [0])
            self.puts([paper([A], [("b", k)]) for k in range(many)], [list(range(many))], [0])
            self.puts([paper()] * many, [list(range(many))], [0])

    def test_notes_then_a_gift_then_notes(self):
        self.puts([paper([A]), paper([A]), paper([], [A]), paper([A]), paper([A])], [[0, 1], [2], [3, 4]], [0, 2, 3])

    def test_right_behind_the_last_round_that_it_meets(self):
        # Rank 3 meets rank 0 alone, whatever stands in later rounds; rank 4 meets ranks 0 and 2.
        papers = [paper([], [A, D]), paper([A], [B]), paper([B], [C]), paper([D]), paper([C, D])]
        self.puts(papers, [[0], [1, 3], [2], [4]], [0, 1, 2, 4])

    def test_not_behind_a_paper_of_a_higher_rank(self):
        self.puts([paper([A]), paper([B]), paper([], [B]), paper([], [A, B])], [[0, 1], [2], [3]], [1, 2, 3])

    def test_a_round_amid_that_has_none_that_it_meets(self):
        papers = [paper([], [A]), paper([A], [B]), paper([B], [C]), paper([A], [D]), paper([], [D])]
        self.puts(papers, [[0], [1, 3], [2, 4]], [0, 1, 2])

    def test_the_lowest_where_there_are_several(self):
        papers = [paper([], [C]), paper([], [A]), paper([], [B]), paper([A, B], []), paper([B, A], [])]
        self.puts(papers, [[0, 1, 2], [3, 4]], [1, 3])
        last = ("q", 1)
        papers = [paper([], [B]), paper([], [A]), paper([], [C]), paper([C], [D]), paper([A, B], [last]), paper([last])]
        self.puts(papers, [[0, 1, 2], [3, 4], [5]], [0, 4, 5])

    def test_runs_done_one_by_one(self):
        texts = [
            "give a 0 1", "take a 0 as x\ngive a 1 x", "take b 0 as x", "take a 1 as x\noff 1", "give a 0 2",
            "take a 0 as x",
        ]
        papers = [fed(code(text), []) for text in texts]
        self.puts(papers, [[0, 2], [1], [3, 4], [5]], [0, 1, 4, 5])

    def holds(self, papers):
        told, linked = rounds(papers), chain(papers)
        self.assertEqual(told, own_rounds(papers))
        at = {rank: number for number, ranks in enumerate(told) for rank in ranks}
        self.assertEqual(sorted(at), list(range(len(papers))))
        for rank in range(len(papers)):
            for lower in range(rank):
                if own_meet(papers[lower], papers[rank]):
                    self.assertLess(at[lower], at[rank])
        self.assertEqual([at[rank] for rank in linked], list(range(len(told))))
        self.assertEqual(linked[-1:], [ranks[0] for ranks in told[-1:]])
        for number in range(1, len(linked)):
            met = [rank for rank in told[number - 1] if own_meet(papers[rank], papers[linked[number]])]
            self.assertEqual(linked[number - 1], min(met))

    def test_made_up_papers(self):
        chance = random.Random(24157817)
        for k in range(300):
            places = PLACES if k % 2 else [("a", number) for number in range(30)]
            self.holds(made_up(chance, chance.randrange(25), places))

    def test_papers_of_made_up_dealings(self):
        maker = Maker(39088169)
        for k in range(60):
            behind, papers = maker.table(), []
            for each in range(maker.chance.randrange(15)):
                papers.append(fed(code(maker.busy() if k % 2 else maker.dealing(8)[0]), behind))
                behind = laid_on(behind, papers[-1][2])
            self.holds(papers)

    def test_many_papers(self):
        chance = random.Random(63245986)
        self.holds(made_up(chance, 300, [("a", number) for number in range(200)]))
        self.holds([paper([("a", k)], [("a", k + 1)]) for k in range(300)])

    def test_arguments_by_their_names_and_kinds_told(self):
        told, linked = rounds(papers=[paper([], [A])]), chain(papers=[paper([], [A])])
        kinds = [type(part) for part in (told, told[0], told[0][0], linked, linked[0])]
        self.assertEqual(kinds, [list, list, int, list, int])


class Own(unittest.TestCase):
    """[2]: papers handed in stay, lists told are the asker's own."""

    def test_papers_handed_in_stay(self):
        chance = random.Random(102334155)
        for k in range(40):
            papers = made_up(chance, 12, PLACES)
            before = copy.deepcopy(papers)
            rounds(papers)
            chain(papers)
            meet(papers[0], papers[1])
            self.assertEqual(papers, before)

    def test_what_becomes_of_them_changes_nothing(self):
        papers = [paper([], [A]), paper([A], []), paper([A], [])]
        told, linked = rounds(papers), chain(papers)
        papers.reverse()
        papers[0][1].clear()
        papers.clear()
        self.assertEqual((told, linked), ([[0], [1, 2]], [0, 1]))

    def test_each_list_told_is_the_askers_own(self):
        papers = [paper([], [A]), paper([A], []), paper([A], []), paper([], [A])]
        for many in range(5):
            told = [rounds(papers[:many]), rounds(papers[:many]), chain(papers[:many]), chain(papers[:many])]
            lists = told + told[0] + told[1]
            self.assertEqual(len({id(one) for one in lists}), len(lists))
            expected = copy.deepcopy(told)
            for one in lists:
                one.append([7])
            self.assertEqual([rounds(papers[:many]), chain(papers[:many])], [expected[0], expected[2]])


if __name__ == "__main__":
    unittest.main()
