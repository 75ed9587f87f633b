"""One judge, promise 25."""

import unittest

from neverbrush.bags import bag
from neverbrush.climbs import climb, is_below
from neverbrush.errors import TooMany
from neverbrush.exchange import newcomer
from neverbrush.forms import forms, home
from neverbrush.judge import first_fallen, is_claim, is_paper_against, is_reason_for, is_so, paper_against, reason_for
from neverbrush.lots import greatest_lot, least_lot
from neverbrush.roads import turns
from neverbrush.seams import seams
from tests import plain
from tests.checks import Checks
from tests.made import ALLEY, DOUBLED_60, LONE, ODD_THINGS, SIXTIES, SQUARE, STRETCHES_2000, STRETCHES_2001, TWICE, Figures
from tests.made import deep_list, listed, listed_below, made_table
from tests.plain_lots import LITTLE, TRIED, subsets, town

ROW = (((0, 1),), ((0,), (1,)))
LOW, TOP = (("W", 0, "ES"), ("W", 0, "S")), (("N", 0, "EE"), ("N", 1, "E"))
FEWER = [city for city in LITTLE if plain.size(city) < 4] + [SQUARE]


class Judged(Checks):
    def judge(self, claim, papers, candidates, reasons, others=()):
        """Asks all of a CLAIM: papers are all against it, candidates all that could be one, reasons all for it,

        or None if those are not told; others are none.
        """
        stands = not papers
        self.assertIs(is_claim(claim), True)
        for own in (claim, listed(claim)):
            self.assertIs(is_so(own), stands)
            paper, reason = paper_against(own), reason_for(own)
            if stands:
                self.assertIsNone(paper)
                self.assertTrue(reasons is None or reason in reasons)
                self.assertIs(is_reason_for(own, reason), True)
                self.assertIs(is_reason_for(own, listed(reason)), False)
            else:
                self.assertIn(paper, papers)
                self.assertIsNone(reason)
                self.assertIs(is_paper_against(own, paper), True)
                self.assertIs(is_paper_against(own, listed(paper)), False)
        for thing in candidates:
            self.assertIs(is_paper_against(claim, thing), thing in papers)
        for thing in others:
            self.assertIs(is_reason_for(claim, thing), stands and thing in reasons)
        self.assertIs(is_reason_for(claim, None), False)
        self.assertIs(is_paper_against(claim, None), False)

    def test_full(self):
        for city in FEWER:
            own = town(city)
            for lot in own.lots:
                self.judge(("full", city, lot), own.more_for(lot), plain.all_roads(city), [own.forms.get(lot)],
                           list(own.forms.values())[:20])

    def test_in(self):
        figures = Figures(251)
        for city in LITTLE:
            own = town(city)
            for lot in own.fulls[::1 if own.size < 3 else 5]:
                for table in ((0,) * own.size, made_table(figures, own.size), plain.table_of(city, [(road, 3) for road in lot])):
                    counts = [sign * own.sum_along(stretch, table) for stretch, sign in own.forms[lot]]
                    papers = [(road, many) for road, many in zip(lot, counts) if many < 0]
                    known = bag(city, table)
                    self.assertEqual(not papers, {road for road, _ in known} <= set(lot))
                    candidates = [(road, many) for road in lot + tuple(own.roads[:1]) for many in (-4, -2, -1, 0, 1)]
                    self.judge(("in", city, lot, table), papers, papers + candidates, [known],
                               [(), known, known[1:], bag(city, made_table(figures, own.size))])

    def test_exchange(self):
        for city in FEWER:
            own = town(city)
            for lot in own.fulls[::1 if own.size < 3 else 5]:
                for k, road in enumerate(lot):
                    wall = lot[:k] + lot[k + 1:]
                    for other in own.roads:
                        papers = [one for one in lot if one == other or (one != road and (one, other) in own.bad)]
                        stands = other != road and not papers
                        self.assertEqual(stands, other in own.more_for(wall) and other != road)
                        self.judge(("exchange", city, lot, road, other), papers, list(lot) + [other] + own.roads[:2],
                                   [own.forms[lot][k]], list(own.forms[lot]))

    def test_below(self):
        for city in FEWER:
            own = town(city)
            for lot in own.fulls:
                for other in own.fulls[::1 + len(own.fulls) // 8]:
                    papers = [one for one in own.unders[lot] if one not in own.unders[other]]
                    self.assertEqual(not papers, lot == other or is_below(city, lot, other))
                    self.judge(("below", city, lot, other), papers, own.stretches, None)

    def test_climbs_are_the_reasons(self):
        for city in (SQUARE, ALLEY, TWICE, LONE):
            own = town(city)
            for lot in own.fulls:
                for steps in self.some_climbs(own, lot):
                    there = lot
                    for step in steps:
                        there = own.ups[there][step]
                    for other in own.fulls[::5] + [there]:
                        self.assertIs(is_reason_for(("below", city, lot, other), steps), other == there)
                        self.assertIs(is_reason_for(("below", city, lot, other), list(steps)), False)
        self.assertIs(is_reason_for(("below", SQUARE, least_lot(SQUARE), greatest_lot(SQUARE)), ((0, ""),) * 5000), False)

    def some_climbs(self, own, lot):
        found = [()]
        for steps in found:
            there = lot
            for step in steps:
                there = own.ups[there][step]
            if len(found) < 12:
                found.extend(steps + (step,) for step in own.ups[there])
        return found

    def test_fits_and_closed(self):
        for city in TRIED:
            own = town(city)
            everyone = list(subsets(own.stretches))
            by_seams, by_under = ({told: lot for lot, told in zip(own.fulls, rows)} for rows in (
                [own.seams(lot) for lot in own.fulls], [own.unders[lot] for lot in own.fulls]))
            pairs = [(one, other) for one in own.stretches for other in own.stretches]
            for some in everyone[::1 + len(everyone) // 60]:
                papers = [pair for pair in pairs if pair in own.overs and pair[0] != pair[1] and set(pair) <= set(some)]
                self.assertEqual(not papers, some in by_seams)
                self.judge(("fits", city, some), papers, pairs[::1 + len(pairs) // 40] + papers, [by_seams.get(some)], own.fulls[:20])
                lacks = own.lacks(some)
                self.assertEqual(not lacks, some in by_under)
                self.judge(("closed", city, some), lacks, own.stretches, [by_under.get(some)], own.fulls[:20])
            for some in own.unders.values():
                self.judge(("closed", city, some), (), own.stretches, [by_under[some]], own.fulls[:20])
            for some in by_seams:
                self.judge(("fits", city, some), (), pairs[:20], [by_seams[some]], own.fulls[:20])

    def test_odd_papers_and_reasons(self):
        claims = (("full", ROW, LOW[1:]), ("full", ROW, LOW), ("in", ROW, LOW, (1, 2)), ("in", ROW, LOW, (2, -1)),
                  ("exchange", ROW, LOW, LOW[0], ("N", 1, "E")), ("exchange", ROW, LOW, LOW[0], ("N", 0, "EE")),
                  ("below", ROW, LOW, TOP), ("below", ROW, TOP, LOW), ("fits", ROW, ((0, ""), (0, "E"))), ("fits", ROW, ()),
                  ("closed", ROW, ((0, "E"),)), ("closed", ROW, ()))
        good = [repr((claims[7], (0, ""))), repr((claims[10], (0, ""))), repr((claims[5], ("W", 0, "S")))]
        for claim in claims:
            for thing in ODD_THINGS + ((None, None), ((0, ""), None), ((False, ""), (0, "E")), (False, ""), (("W", 0, "ES"), True)):
                with self.subTest(claim=claim, thing=str(thing)[:50]):
                    self.assertIs(is_paper_against(claim, thing), repr((claim, thing)) in good)
                self.assertIs(is_reason_for(claim, thing), False)
        for claim, paper in ((claims[0], ("N", 1, "E")), (claims[3], (("W", 0, "ES"), -1)), (claims[5], ("W", 0, "S")),
                             (claims[7], (0, "E")), (claims[8], ((0, "E"), (0, ""))), (claims[10], (0, ""))):
            self.assertIs(is_paper_against(claim, paper), True)
            for depth in range(3):
                own = listed_below(paper, depth)
                self.assertIs(is_paper_against(claim, own), own == paper)
        for claim in (("below", ROW, LOW, LOW), ("below", ROW, TOP, TOP)):
            self.assertEqual(reason_for(claim), ())
            self.assertIs(is_reason_for(claim, ()), True)
            self.assertIs(is_reason_for(claim, []), False)

    def test_exchange_with_what_is_there(self):
        self.assertEqual(paper_against(("exchange", ROW, LOW, LOW[0], LOW[0])), LOW[0])
        self.assertEqual(paper_against(("exchange", ROW, LOW, LOW[0], LOW[1])), LOW[1])
        for other in LOW:
            for own in LOW:
                self.assertIs(is_paper_against(("exchange", ROW, LOW, LOW[0], other), own), own == other)

    def test_sixty(self):
        figures = Figures(252)
        for city in SIXTIES:
            table = made_table(figures, 60, 40)
            lot = home(city, table)
            road = lot[figures.below(60)]
            other = newcomer(city, lot, road)
            self.assertEqual(reason_for(("full", city, lot)), forms(city, lot))
            paper = paper_against(("full", city, lot[1:]))
            self.assertIs(is_paper_against(("full", city, lot[1:]), paper), True)
            self.assertIs(is_paper_against(("full", city, lot[1:]), lot[0]), True)
            self.assertIs(is_paper_against(("full", city, lot[1:]), lot[1]), False)
            self.assertEqual(reason_for(("in", city, lot, table)), bag(city, table))
            self.assertIs(is_so(("in", city, lot, turns(city, other))), False)
            paper = paper_against(("in", city, lot, turns(city, other)))
            self.assertIs(is_paper_against(("in", city, lot, turns(city, other)), paper), True)
            self.assertIs(is_so(("exchange", city, lot, road, other)), True)
            one = paper_against(("exchange", city, lot, lot[0] if road != lot[0] else lot[1], other))
            self.assertIn(one, lot)
            self.assertIsNone(paper_against(("exchange", city, lot, road, other)))


class Claims(Checks):
    def test_is_claim(self):
        for thing in ODD_THINGS:
            self.assertIs(is_claim(thing), False)
        for claim in (("full", ROW, ()), ("in", ROW, LOW, (0, 0)), ("exchange", ROW, LOW, LOW[0], LOW[0]), ("below", ROW, TOP, LOW),
                      ("fits", ROW, ()), ("closed", ROW, ((0, ""),)), ("full", LONE, (("W", 0, "S"),))):
            self.assertIs(is_claim(claim), True)
            self.assertIs(is_claim(list(claim)), False)
            for depth in range(1, 6):
                own = listed_below(claim, depth)
                self.assertIs(is_claim(own), repr(own) == repr(claim))
                is_so(own)
            self.assertIs(is_claim(claim + (0,)), False)
            self.assertIs(is_claim(claim[:-1]), False)
            self.assertIs(is_claim((claim[0].upper(),) + claim[1:]), False)
        for claim in (("full", ROW, (("W", False, "S"),)), ("in", ROW, LOW, (0, False)), ("closed", ROW, ((False, ""),)),
                      ("exchange", ROW, LOW, ("W", 0, "EE"), LOW[0]), ("exchange", ROW, LOW, LOW[0], ("W", 0, "EE")),
                      ("exchange", ROW, LOW, TOP[0], LOW[0]), ("exchange", ROW, LOW[1:], LOW[1], TOP[0]), ("below", ROW, LOW, ()),
                      ("in", ROW, LOW[1:], (0, 0)), ("fits", ROW, ((0, "E"), (0, "")))):
            self.assertIs(is_claim(claim), False)
            for function in (is_so, paper_against, reason_for):
                self.unfit(function, claim)
            for function in (is_paper_against, is_reason_for):
                self.unfit(function, claim, None)
            self.unfit(first_fallen, (("full", ROW, ()), claim))

    def test_first_fallen(self):
        good, bad = ("full", ROW, TOP), ("full", ROW, ())
        for claims, known in (((), None), ((good,), None), ((bad,), 0), ((good, bad), 1), ((bad, good), 0), ((good,) * 9, None),
                              ((good, good, bad, bad), 2), ((good, ("fits", ROW, ()), ("closed", ROW, ((0, "E"),))), 2)):
            self.assertEqual(first_fallen(claims), known)
            self.assertEqual(first_fallen(list(claims)), known)
            self.assertEqual(first_fallen(listed(claims)), known)
        for claims in (None, 5, "", good, (good, None), (bad, None), (None, bad), ((),)):
            self.unfit(first_fallen, claims)

    def test_too_many(self):
        for city in (STRETCHES_2000, STRETCHES_2001, DOUBLED_60):
            least, most = least_lot(city), greatest_lot(city)
            some = ((0, ""),)
            claims = (("below", city, least, most), ("below", city, most, least), ("fits", city, some), ("closed", city, some),
                      ("fits", city, ((0, ""), (0, "S"))))
            for claim, stands in zip(claims, (True, False, True, True, False)):
                self.assertIs(is_claim(claim), True)
                if city == STRETCHES_2000:
                    self.assertIs(is_so(claim), stands)
                    self.assertIs((paper_against(claim) is None), stands)
                    self.assertIs(is_reason_for(claim, reason_for(claim)), stands)
                    continue
                for function in (is_so, paper_against, reason_for):
                    self.raises(TooMany, {}, function, claim)
                for function in (is_paper_against, is_reason_for):
                    for thing in (None, deep_list(0, 20), (0, ""), (), "x" * 5000):
                        self.raises(TooMany, {}, function, claim, thing)
                self.raises(TooMany, {}, first_fallen, (claim, ("full", city, ())))
                self.raises(TooMany, {}, first_fallen, (("full", city, least), claim))
                self.assertEqual(first_fallen((("full", city, least), ("full", city, ()), claim)), 1)
                self.unfit(first_fallen, (claim, None))
            for claim in (("full", city, least), ("in", city, least, (1,) * plain.size(city)),
                          ("exchange", city, least, least[0], newcomer(city, least, least[0]))):
                self.assertIs(is_so(claim), True)
            self.unfit(is_so, ("below", city, least, most[1:]))
            self.unfit(is_so, ("fits", city, ((0, "S"), (0, ""))))
        steps = climb(STRETCHES_2000, least_lot(STRETCHES_2000), greatest_lot(STRETCHES_2000))
        claim = ("below", STRETCHES_2000, least_lot(STRETCHES_2000), greatest_lot(STRETCHES_2000))
        self.assertIs(is_reason_for(claim, steps), True)
        self.assertIs(is_reason_for(claim, steps[:-1]), False)
        everyone = tuple(plain.all_stretches(STRETCHES_2000))
        self.assertIs(is_so(("closed", STRETCHES_2000, everyone)), True)
        self.assertIs(is_paper_against(("closed", STRETCHES_2000, everyone[1:]), everyone[0]), True)
        self.assertEqual(reason_for(("closed", STRETCHES_2000, everyone)), greatest_lot(STRETCHES_2000))
        self.assertEqual(seams(STRETCHES_2000, reason_for(("fits", STRETCHES_2000, everyone[:1]))), everyone[:1])


if __name__ == "__main__":
    unittest.main()
