"""Looking papers through: which hold, and which part of the others is refused."""

import unittest
from fractions import Fraction
from itertools import product
from random import Random

from beamframes.confusing import check_taken, taken
from beamframes.errors import BadPaper, BadRatio, BadReceiver
from beamframes.ratios import Ratio
from tests.samples import (
    CLEAR_RECEIVERS, LITTLE, NO_RATIOS, NO_RECEIVERS, ONE_TABLE, RECEIVERS, asked_tolerances, just_below_limit,
)
from tests.told import (
    fraction, is_told_final, ratio, ratios, receiver_of, told_frame_of, told_led, told_limit, told_needs,
    told_sendings, told_stands, told_starts,
)


class PaperTest(unittest.TestCase):
    def part_refused(self, receiver, tolerance, paper):
        """The part that is refused, or None of a paper that holds."""
        try:
            check_taken(receiver, tolerance, paper)
        except BadPaper as error:
            return error.part
        return None

    def refused(self, part, receiver, tolerance, paper):
        with self.subTest(part=part, paper=paper):
            self.assertEqual(self.part_refused(receiver, tolerance, paper), part)

    def test_each_paper_that_is_told_holds(self):
        for receiver in RECEIVERS:
            limit = told_limit(receiver)
            for tolerance in asked_tolerances(receiver):
                told = "taken" if limit <= fraction(tolerance) else "safe"
                paper = taken(receiver, tolerance)
                self.assertEqual(check_taken(receiver, tolerance, paper), told)
                self.assertEqual(check_taken(paper=paper, tolerance=tolerance, receiver=receiver), told)

    def test_form(self):
        stands = taken(ONE_TABLE, Ratio(0))[1]
        right = taken(ONE_TABLE, Ratio(1))
        for thing in (
            None, True, 0, 2, "safe", "taken", b"safe", Ratio(1), object(), {}, {0: "safe", 1: stands}, [], (),
            ["safe", stands], list(right), ("safe",), ("taken",), ("safe", stands, stands), ("safe", *stands),
            ("safe", None, None, None), ("taken", stands), right[:3], right + (None,), right[1:], (stands, "safe"),
            ("Safe", stands), ("saf", stands), ("safe ", stands), (b"safe", stands), (None, stands), (True, stands),
            (("safe",), stands), (["safe"], stands), ("limit", stands), ("Taken", *right[1:]), ("", *right[1:]),
        ):
            self.refused("form", ONE_TABLE, Ratio(0), thing)
            self.refused("form", ONE_TABLE, Ratio(1), thing)

    def test_stands_in_another_order(self):
        random = Random(24)
        for receiver in CLEAR_RECEIVERS:
            tolerance = just_below_limit(receiver)
            stands = list(taken(receiver, tolerance)[1])
            for _ in range(5):
                random.shuffle(stands)
                self.assertEqual(check_taken(receiver, tolerance, ("safe", tuple(stands))), "safe")

    def test_further_stands(self):
        kinds = []
        for receiver in CLEAR_RECEIVERS:
            tolerance = ratio(told_limit(receiver) / 2)
            own = told_stands(receiver, tolerance)
            led = told_led(receiver, told_stands(receiver), tolerance)
            for further in sorted(set(led) - own):
                more = closed(led, {further})
                holds = not any(is_told_final(receiver, stand) for stand in more)
                kinds.append((holds, len(more - own) > 1))
                paper = ("safe", tuple(own | more))
                if holds:
                    self.assertEqual(check_taken(receiver, tolerance, paper), "safe")
                else:
                    self.refused("stands", receiver, tolerance, paper)
                holds_alone = not is_told_final(receiver, further) and led[further] <= own | {further}
                paper = ("safe", (further, *own))
                if holds_alone:
                    self.assertEqual(check_taken(receiver, tolerance, paper), "safe")
                else:
                    self.refused("stands", receiver, tolerance, paper)
        self.assertEqual(set(kinds), set(product((False, True), repeat=2)))

    def test_no_paper_of_stands_where_one_can_be_taken(self):
        for receiver in RECEIVERS:
            tolerance = ratio(told_limit(receiver))
            stands = told_stands(receiver)
            for given in (
                stands, told_stands(receiver, tolerance),
                {stand for stand in stands if not is_told_final(receiver, stand)},
            ):
                self.refused("stands", receiver, tolerance, ("safe", tuple(given)))

    def test_one_left_out_or_twice(self):
        for receiver in CLEAR_RECEIVERS:
            tolerance = just_below_limit(receiver)
            stands = taken(receiver, tolerance)[1]
            self.refused("stands", receiver, tolerance, ("safe", ()))
            for at, stand in enumerate(stands):
                self.refused("stands", receiver, tolerance, ("safe", stands[:at] + stands[at + 1:]))
                self.refused("stands", receiver, tolerance, ("safe", (stand,) + stands))

    def test_start_stands_are_asked_for(self):
        # A start stand that no stand leads to is missed although all others hold.
        receiver = CLEAR_RECEIVERS[8]
        stands = taken(receiver, Ratio(0))[1]
        for start in told_starts(receiver):
            rest = tuple(stand for stand in stands if stand[:2] != start[:2])
            self.refused("stands", receiver, Ratio(0), ("safe", rest))

    def test_at_another_tolerance(self):
        self.assertEqual(check_taken(ONE_TABLE, Ratio(0), taken(ONE_TABLE, Ratio(1, 2))), "safe")
        self.refused("stands", ONE_TABLE, Ratio(7, 12), taken(ONE_TABLE, Ratio(1, 2)))
        receiver = receiver_of((("pairs", (), (2, 2), (9, 9), 1, 2), 0))
        paper = taken(receiver, Ratio(1, 2))
        self.assertEqual(check_taken(receiver, Ratio(10, 13), paper), "safe")
        self.refused("stands", receiver, Ratio(7, 9), paper)

    def test_what_is_no_tuple_of_stands(self):
        stands = taken(ONE_TABLE, Ratio(0))[1]
        for thing in (
            None, True, 0, "", "safe", b"", Ratio(0), object(), {}, dict.fromkeys(stands), set(stands), list(stands),
            (list(stands),), (stands,), tuple(list(stand) for stand in stands),
        ):
            self.refused("stands", ONE_TABLE, Ratio(0), ("safe", thing))

    def test_any_object_as_a_stand(self):
        stands = taken(ONE_TABLE, Ratio(0))[1]
        place = (0, (), "")
        for thing in (
            None, True, 0, 1.5, "", "stand", b"", Ratio(0), object(), {}, set(), [], (), (0,), (0, 0), place, place * 2,
            (0, 0, False, place), (0, 0, False, place, place, place), (0, 0, False, place, None),
            [0, 0, False, place, place],
            (0, 0, False, [0, (), ""], place), (0, 0, False, place, [0, (), ""]), (0, 0, False, (0, [], ""), place),
            (0, 0, False, place, (0, [], "")), (0, 0, False, (0, ()), place), (0, 0, False, place, (0, (), "", "")),
            (0, 0, True, place, place), (0, 0, False, (1, (), ""), place),
            (0, 0, False, (1, (1, 1), ""), (1, (3, 1), "")), (0, 0, True, (1, (1, 1), ""), (1, (3, 1), "")),
            (0, 1, True, place, place), (1, 0, True, place, place), (-1, -1, False, place, place),
            (1, 1, False, place, place),
            (0, 0, False, (0, (1,), ""), (0, (1,), "")), (0, 0, False, (0, (), "gap"), (0, (), "gap")),
            (0, 0, False, (2, (), ""), (2, (), "")), (0, 0, False, (-1, (), ""), (-1, (), "")),
            (0, 0, False, (0, (), None), (0, (), None)), (0, 0, False, (0, (), b""), (0, (), b"")),
            (0, 0, False, (0, (), []), (0, (), [])), (0, 0, False, place, (0, (), {})),
            (0, 0, False, ([], (), ""), place),
            (0, 0, False, (0, ({},), ""), (0, ({},), "")), (0, 0, False, (0, (Ratio(1),), ""), (0, (Ratio(1),), "")),
            (Ratio(0), 0, False, place, place), ([], 0, False, place, place),
            (10 ** 999, 10 ** 999, False, place, place),
            (0, 0, None, place, place), (0, 0, [], place, place), (0, 0, {}, place, place), (0, 0, False, {}, place),
        ):
            self.refused("stands", ONE_TABLE, Ratio(0), ("safe", stands + (thing,)))
            self.refused("stands", ONE_TABLE, Ratio(0), ("safe", (thing,) + stands))
            self.refused("stands", ONE_TABLE, Ratio(0), ("safe", (thing,) + stands[1:]))

    def test_what_python_takes_for_equal_is_no_stand(self):
        receiver = CLEAR_RECEIVERS[8]
        stands = taken(receiver, Ratio(0))[1]
        self.assertEqual(check_taken(receiver, Ratio(0), ("safe", stands)), "safe")
        for at, (index, lower, is_less, one, two) in enumerate(stands):
            others = [
                (float(index), lower, is_less, one, two), (index, float(lower), is_less, one, two),
                (index, lower, int(is_less), one, two), (index, lower, float(is_less), one, two),
                (index, lower, is_less, (float(one[0]), *one[1:]), two),
                (index, lower, is_less, one, (float(two[0]), *two[1:])),
            ]
            others += [(bool(index), lower, is_less, one, two)] if index < 2 else []
            others += [(index, bool(lower), is_less, one, two)] if lower < 2 else []
            others += [(index, lower, is_less, (bool(one[0]), *one[1:]), two)] if one[0] < 2 else []
            others += [(index, lower, is_less, one, (bool(two[0]), *two[1:]))] if two[0] < 2 else []
            if one[1]:
                others.append((index, lower, is_less, (one[0], tuple(map(float, one[1])), one[2]), two))
            if two[1] and two[1][-1] == 1:
                others.append((index, lower, is_less, one, (two[0], two[1][:-1] + (True,), two[2])))
            for other in others:
                self.assertEqual(other, stands[at])
                self.refused("stands", receiver, Ratio(0), ("safe", stands[:at] + (other,) + stands[at + 1:]))

    def test_first_and_second_are_sendings(self):
        for receiver in RECEIVERS:
            paper = taken(receiver, Ratio(10))
            for wrong in (
                None, True, 0, "", (), [], {}, Ratio(0), object(), list(paper[1]), (-1, (0,)), (len(receiver), (0,)),
                (0, ()), (0, (2,)), (0, [0]), (True, (0,)), (False, paper[1][1]), (0, (0,) * 9), (0,), ((0,), 0),
                (0, (0,), 0), paper, paper[1:3], (0, (True,)), (0, (None,) * receiver[0][0][-1]),
            ):
                self.refused("first", receiver, Ratio(10), ("taken", wrong, paper[2], paper[3]))
                self.refused("second", receiver, Ratio(10), ("taken", paper[1], wrong, paper[3]))

    def test_second_is_less_than_first(self):
        for receiver in RECEIVERS:
            for first, second in product(told_sendings(receiver), repeat=2):
                paper = ("taken", first, second, ratios(*told_frame_of(receiver, first)))
                if second < first:
                    self.assertIn(self.part_refused(receiver, Ratio(10 ** 9), paper), (None, "burst"))
                else:
                    self.refused("second", receiver, Ratio(10 ** 9), paper)

    def test_bursts_at_the_edges_of_both_tolerances(self):
        for receiver in RECEIVERS:
            for (first, second), need in told_needs(receiver).items():
                frame, other = told_frame_of(receiver, first), told_frame_of(receiver, second)
                own = fraction(receiver[second[0]][1])
                nearest = [min(max(Fraction(d), e * (1 - own)), e * (1 + own)) for d, e in zip(frame, other)]
                paper = ("taken", first, second, ratios(*nearest))
                self.assertEqual(check_taken(receiver, ratio(need), paper), "taken")
                self.assertEqual(check_taken(receiver, ratio(need + LITTLE), paper), "taken")
                if need:
                    self.refused("burst", receiver, ratio(need * (1 - LITTLE)), paper)
                # Just beyond the tolerance of the table of SECOND, however much S lets through.
                for at, duration in enumerate(other):
                    for number in (duration * (1 + own + LITTLE), duration * (1 - own - LITTLE)):
                        items = nearest[:at] + [number] + nearest[at + 1:]
                        if number > 0:
                            self.refused("burst", receiver, Ratio(10 ** 9), ("taken", first, second, ratios(*items)))

    def test_what_is_no_burst(self):
        for receiver in RECEIVERS:
            _, first, second, burst = taken(receiver, Ratio(10))
            for wrong in (
                None, True, 0, "", (), [], {}, list(burst), Ratio(1), object(), burst[:-1], burst[:-2], burst * 2,
                burst + burst[:2], burst[:-1] + (Ratio(0),), burst[:-1] + (None,), burst[:-1] + (1,), (burst,),
                (Ratio(1),) * 65, (Ratio(10 ** 40),) * len(burst), burst[:-1] + (True,), told_frame_of(receiver, first),
            ):
                self.refused("burst", receiver, Ratio(10), ("taken", first, second, wrong))

    def test_frames_with_other_numbers_of_items(self):
        receiver = receiver_of((("halves", 5, 2), Fraction(9, 10)))
        for burst in (ratios(5, 10, 10), ratios(5, 10, 5, 5, 5)):
            self.refused("burst", receiver, Ratio(10), ("taken", (0, (0, 1)), (0, (0, 0)), burst))
            self.refused("burst", receiver, Ratio(10), ("taken", (0, (1, 0)), (0, (0, 1)), burst))

    def test_the_first_wrong_part_is_told(self):
        receiver, tolerance = ONE_TABLE, Ratio(7, 12)
        right = taken(receiver, tolerance)
        wrong = ("taken", (1, (0,)), None, None)
        for which in product((False, True), repeat=3):
            parts = [wrong[at] if is_wrong else right[at] for at, is_wrong in enumerate(which, start=1)]
            paper = ("taken", *parts)
            if any(which):
                self.refused(("first", "second", "burst")[which.index(True)], receiver, tolerance, paper)
            else:
                self.assertEqual(check_taken(receiver, tolerance, paper), "taken")
        self.refused("second", receiver, tolerance, ("taken", (0, (0,)), (0, (1,)), None))
        self.refused("second", receiver, tolerance, ("taken", (0, (1,)), (0, (1,)), ratios(1, 3, 1)))

    def test_errors_in_their_order(self):
        for place, thing in NO_RECEIVERS:
            for tolerance, paper in ((Ratio(0), ("safe", ())), (None, None), (None, taken(ONE_TABLE, Ratio(0)))):
                with self.assertRaises(BadReceiver) as caught:
                    check_taken(thing, tolerance, paper)
                self.assertEqual(caught.exception.place, place)
        for wrong in NO_RATIOS:
            for paper in (None, taken(ONE_TABLE, Ratio(0)), taken(ONE_TABLE, Ratio(1))):
                with self.assertRaises(BadRatio) as caught:
                    check_taken(ONE_TABLE, wrong, paper)
                self.assertIs(caught.exception.given, wrong)

    def test_a_refused_paper_stays_as_it_was(self):
        stands = [list(stand) for stand in taken(ONE_TABLE, Ratio(0))[1]]
        kept = [list(stand) for stand in stands]
        self.refused("stands", ONE_TABLE, Ratio(0), ("safe", stands))
        self.refused("stands", ONE_TABLE, Ratio(0), ("safe", tuple(stands)))
        self.assertEqual(stands, kept)


def closed(led, stands):
    """Some stands with all those that they lead to."""
    found, waiting = set(stands), list(stands)
    while waiting:
        for stand in led[waiting.pop()] - found:
            found.add(stand)
            waiting.append(stand)
    return found


if __name__ == "__main__":
    unittest.main()
