"""Points 11.1 to 11.4: measured codes, and what they make sure of other codes."""

import itertools
import random
import unittest
from fractions import Fraction

from stretchprices.measured import between, clash, enough_codes, fitting, is_side, sure
from stretchprices.stretches import Prices, all_stretches
from helpers import M, deep, drawn_prices, odd_things, pair, raised, slow_price, slow_stretches
from slow_ways import spoiled_fractions

GREAT = 10 ** 59 + 7


def counts(code, width):
    """How often each stretch stands in a code."""
    found = {}
    for stretch in slow_stretches(code, width):
        found[stretch] = found.get(stretch, 0) + 1
    return found


def together(codes, weights, width):
    """How often each stretch stands in codes, each counted so often, those that stand 0 times left out."""
    found = {}
    for code, weight in zip(codes, weights):
        for stretch, many in counts(code, width).items():
            found[stretch] = found.get(stretch, Fraction(0)) + many * Fraction(*weight)
    return {stretch: many for stretch, many in found.items() if many}


def worth(measures, weights):
    return sum((Fraction(*measured) * Fraction(*weight) for (_, measured), weight in zip(measures, weights)),
               Fraction(0))


def rank(vectors):
    """The rank of dicts of numbers, by elimination."""
    kept = []
    for vector in vectors:
        left = {key: Fraction(many) for key, many in vector.items()}
        for pivot, other in kept:
            many = left.get(pivot, 0)
            if many:
                left = {key: left.get(key, 0) - many * other.get(key, 0) for key in {*left, *other}}
        left = {key: many for key, many in left.items() if many}
        if left:
            pivot = min(left)
            kept.append((pivot, {key: many / left[pivot] for key, many in left.items()}))
    return len(kept)


def code_rank(codes, width):
    return rank([counts(code, width) for code in codes])


def drawn_code(draw, rows, most):
    return "".join(draw.choice(rows) for _ in range(draw.randint(0, most)))


def drawn_case(seed):
    """Rows, a width, measures and a code: some fit, some clash, some make the code sure."""
    draw = random.Random(seed)
    rows = draw.choice(("a", "ab", "abc", "abcd", "xz"))
    width = draw.randint(1, 3)
    codes = [drawn_code(draw, rows, draw.choice((1, 3, 6))) for _ in range(draw.randint(0, 8))]
    prices = drawn_prices(seed, rows, width)
    measures = [(code, pair(slow_price(prices, code))) for code in codes]
    if measures and draw.random() < 0.3:
        at = draw.randrange(len(measures))
        code, measured = measures[at]
        measures[at] = (code, pair(Fraction(*measured) + Fraction(draw.randint(1, 3), draw.randint(1, 3))))
    code = drawn_code(draw, rows, 5)
    if codes and draw.random() < 0.5:
        code = draw.choice(codes)
    return rows, width, measures, code


def can_fit(width, measures):
    """Whether some prices fit: the measured fractions add nothing to the rank."""
    ranked = [counts(code, width) for code, _ in measures]
    more = [{**counts(code, width), "measured": Fraction(*measured)} for code, measured in measures]
    return rank(ranked) == rank([{key: many for key, many in vector.items() if many} for vector in more])


class FittingTest(unittest.TestCase):

    def check_fitting(self, rows, width, measures, prices):
        self.assertIs(type(prices), Prices)
        self.assertEqual((prices.rows, prices.width), (rows, width))
        self.assertEqual(sorted(prices.table), all_stretches(rows, width))
        for code, measured in measures:
            self.assertEqual(pair(slow_price(prices, code)), measured)

    def check_clash(self, width, measures, weights):
        self.assertIs(type(weights), tuple)
        self.assertEqual(len(weights), len(measures))
        for top, bottom in weights:
            self.assertEqual((top, bottom), pair(Fraction(top, bottom)))
        self.assertEqual(together([code for code, _ in measures], weights, width), {})
        self.assertNotEqual(worth(measures, weights), 0)

    def check_one(self, rows, width, measures):
        prices, weights = fitting(rows, width, measures), clash(rows, width, measures)
        self.assertEqual(prices is None, weights is not None)
        self.assertEqual(prices is not None, can_fit(width, measures))
        if prices is None:
            self.check_clash(width, measures, weights)
        else:
            self.check_fitting(rows, width, measures, prices)
        return prices is not None

    def test_just_one_of_both(self):
        kinds = {True: 0, False: 0}
        for seed in range(400):
            rows, width, measures, _ = drawn_case(seed)
            kinds[self.check_one(rows, width, measures)] += 1
        self.assertGreater(min(kinds.values()), 50)

    def test_no_measures(self):
        for none in ([], ()):
            self.check_fitting("ab", 2, [], fitting("ab", 2, none))
            self.assertIsNone(clash("ab", 2, none))

    def test_one_code_twice(self):
        like = [("ab", (3, 2)), ("ab", (3, 2))]
        unlike = [("ab", (3, 2)), ("ab", (5, 3))]
        self.assertTrue(self.check_one("ab", 1, like))
        self.assertFalse(self.check_one("ab", 1, unlike))
        one, other = clash("ab", 1, unlike)
        self.assertEqual(Fraction(*one), -Fraction(*other))

    def test_empty_codes(self):
        self.assertTrue(self.check_one("ab", 3, [("", (0, 1)), ("a", (1, 2)), ("", (0, 1))]))
        self.assertFalse(self.check_one("ab", 3, [("a", (1, 2)), ("", (1, 10 ** 59))]))
        top, bottom = clash("ab", 3, [("a", (1, 2)), ("", (-1, 7))])[1]
        self.assertNotEqual(top, 0)
        self.assertEqual(clash("ab", 3, [("a", (1, 2)), ("", (-1, 7))])[0], (0, 1))

    def test_codes_put_together_of_others(self):
        # For the width 1 the order of the rows does not count.
        self.assertTrue(self.check_one("ab", 1, [("a", (1, 3)), ("b", (1, 2)), ("baab", (5, 3))]))
        self.assertFalse(self.check_one("ab", 1, [("a", (1, 3)), ("b", (1, 2)), ("baab", (5, 4))]))
        self.assertTrue(self.check_one("ab", 1, [("ab", (1, 3)), ("aabb", (2, 3))]))
        # For the width 2 it does: "ab" and "ba" end other stretches.
        self.assertTrue(self.check_one("ab", 2, [("ab", (1, 3)), ("ba", (7, 3))]))
        self.assertFalse(self.check_one("ab", 1, [("ab", (1, 3)), ("ba", (7, 3))]))
        self.assertTrue(self.check_one("a", 2, [("a", (1, 1)), ("aa", (3, 1)), ("aaa", (5, 1))]))
        self.assertFalse(self.check_one("a", 2, [("a", (1, 1)), ("aa", (3, 1)), ("aaa", (6, 1))]))
        self.assertTrue(self.check_one("a", 3, [("a", (1, 1)), ("aa", (3, 1)), ("aaa", (6, 1))]))

    def test_great_numbers(self):
        measures = [("a" * 200, (GREAT, GREAT - 1)), ("ab" * 100, (-GREAT, 10 ** 59)), ("b", (1, 10 ** 59 + 9)),
                    ("ba" * 99, (GREAT, 3))]
        self.assertTrue(self.check_one("ab", 3, measures))
        self.assertFalse(self.check_one("ab", 3, measures + [("ba" * 100, (GREAT, 7)), ("ba" * 98, (GREAT, 7))]))

    def test_what_was_returned_may_be_measured(self):
        measures = [("aab" * at + "b" * at * at, pair(Fraction(10 ** 58 + at, 10 ** 59 - at))) for at in range(1, 4)]
        prices = fitting("ab", 3, measures)
        again = [("aab" * at, pair(slow_price(prices, "aab" * at))) for at in range(1, 9)]
        self.assertTrue(self.check_one("ab", 3, again))
        self.assertFalse(self.check_one("ab", 3, again[:7] + [("aab" * 8, (1, 3))]))

    def test_lists_tuples_and_their_sizes(self):
        eight = [("a" * at, (at, 3) if at % 3 else (at // 3, 1)) for at in range(1, 9)]
        for measures in (eight, tuple(eight)):
            self.check_fitting("ab", 1, eight, fitting("ab", 1, measures))
            self.assertIsNone(clash("ab", 1, measures))
        for measures in (eight + [("", (0, 1))], tuple(eight) + (("", (0, 1)),)):
            for call in (fitting, clash):
                self.assertEqual(raised(call, "ab", 1, measures), ("NoMeasures", {}))

    def test_arguments_stay(self):
        measures = [("ab", (3, 2)), ("ba", (5, 3))]
        kept = list(measures)
        for call in (fitting, clash):
            call("ab", 2, measures)
        sure("ab", 2, measures, "a")
        between("ab", 2, measures, (1, 2), "a")
        self.assertEqual(measures, kept)

    def test_tables_are_new(self):
        prices = fitting("ab", 2, [("ab", (3, 2))])
        prices.table["a"] = "spoiled"
        table = prices.table
        table.clear()
        self.check_fitting("ab", 2, [("ab", (3, 2))], prices)
        self.assertEqual(prices, fitting("ab", 2, [("ab", (3, 2))]))


class ErrorsTest(unittest.TestCase):

    def calls(self, rows, width, measures):
        """Each function with these first arguments, and with right and wrong ones behind."""
        for rest in (("a",), (None,)):
            yield sure, (rows, width, measures, *rest)
            yield between, (rows, width, measures, (0, 1), *rest)
            yield between, (rows, width, measures, None, *rest)
            for bound in ((1, 1), None):
                yield is_side, (rows, width, measures, (0, 1), *rest, bound, ((1, 1),))
                yield is_side, (rows, width, measures, None, *rest, bound, ((1, 1),))
        yield fitting, (rows, width, measures)
        yield clash, (rows, width, measures)

    def test_no_rows(self):
        for thing in odd_things() + ["ba", "aa", "", "abcde", "A", ("a",), ["a"]]:
            if thing == "a" or thing == "ab":
                continue
            for width, measures in ((1, []), (0, None), (None, [("q", (1, 1))])):
                for call, given in self.calls(thing, width, measures):
                    self.assertEqual(raised(call, *given), ("NoRows", {}), thing)
                self.assertEqual(raised(enough_codes, thing, width, []), ("NoRows", {}), thing)
                self.assertEqual(raised(enough_codes, thing, width, None), ("NoRows", {}), thing)

    def test_no_width(self):
        for thing in odd_things() + [0, 4, -1, "1", (1,), True]:
            if thing in (1, 2, 3) and thing is not True:
                continue
            for measures in ([], None, [("q", (1, 1))]):
                for call, given in self.calls("ab", thing, measures):
                    self.assertEqual(raised(call, *given), ("NoWidth", {}), thing)
            for codes in ([], None):
                self.assertEqual(raised(enough_codes, "ab", thing, codes), ("NoWidth", {}), thing)

    def test_no_measures(self):
        wrong = [thing for thing in odd_things() if thing != [] and thing != ()]
        right = ("ab", (1, 2))
        pairs = [["ab", (1, 2)], ("ac", (1, 2)), ("Ab", (1, 2)), (None, (1, 2)), (b"ab", (1, 2)), ("ab",), "ab",
                 ("ab", (1, 2), 1), ("ab", 1), (("a", "b"), (1, 2)), ("^a", (1, 2)), ("a b", (1, 2)), (1, (1, 2)),
                 (["a"], (1, 2)), {"ab": (1, 2)}, deep("tuple"), deep("list"), None, 1, (), ((), ()), M]
        pairs += [("ab", thing) for thing in spoiled_fractions((1, 2)) + odd_things()]
        for thing in pairs:
            wrong += [[thing], (right, thing), [thing, right]]
        wrong += [{right: 1}, {0: right}, "ab", iter([right]), [right] * 9, (right,) * 9, [[right]], ((right,),)]
        for thing in wrong:
            for call, given in self.calls("ab", 2, thing):
                self.assertEqual(raised(call, *given), ("NoMeasures", {}), thing)

    def test_no_code_ahead_of_clash(self):
        clashing = [("a", (1, 1)), ("a", (2, 1))]
        for thing in odd_things() + ["c", "A", "^a", "a-b", ("a",), ["a"], b"a"]:
            if thing in ("a", "ab", "aa", "ba", "") and isinstance(thing, str):
                continue
            for measures in ([], clashing):
                self.assertEqual(raised(sure, "ab", 2, measures, thing), ("NoCode", {}), thing)
                self.assertEqual(raised(between, "ab", 2, measures, (0, 1), thing), ("NoCode", {}), thing)
                for bound in ((1, 1), None):
                    weights = ((1, 1),) * len(measures)
                    self.assertEqual(raised(is_side, "ab", 2, measures, (0, 1), thing, bound, weights), ("NoCode", {}))

    def test_no_slack_ahead_of_no_code(self):
        things = odd_things() + spoiled_fractions((1, 2)) + [(-1, 2), (-1, 1), (-10 ** 59, 1)]
        for thing in things:
            for measures in ([], [("a", (1, 1)), ("a", (9, 1))]):
                for code in ("a", None):
                    self.assertEqual(raised(between, "ab", 1, measures, thing, code), ("NoSlack", {}), thing)
                    for bound in ((1, 1), None):
                        self.assertEqual(raised(is_side, "ab", 1, measures, thing, code, bound, None), ("NoSlack", {}))

    def test_clash_just_where_nothing_fits(self):
        kinds = {True: 0, False: 0}
        for seed in range(150):
            rows, width, measures, code = drawn_case(seed)
            fits = can_fit(width, measures)
            kinds[fits] += 1
            wanted = None if fits else ("Clash", {})
            self.assertEqual(raised(sure, rows, width, measures, code), wanted)
            self.assertEqual(raised(sure, rows, width, measures, ""), wanted)
            self.assertEqual(raised(between, rows, width, measures, (0, 1), code), wanted)
            self.assertEqual(raised(is_side, rows, width, measures, (0, 1), code, (0, 1), ()), None)
        self.assertGreater(min(kinds.values()), 15)

    def test_no_fraction_behind_all_others(self):
        for thing in odd_things() + spoiled_fractions((3, 2)):
            for weights in (((1, 1),), None):
                self.assertEqual(raised(is_side, "ab", 1, [("a", (1, 1))], (0, 1), "a", thing, weights),
                                 ("NoFraction", {}), thing)


class SureTest(unittest.TestCase):

    def check_sure(self, rows, width, measures, code):
        """What sure tells, judged by sums; its first word."""
        found = sure(rows, width, measures, code)
        self.assertIs(type(found), tuple)
        self.assertEqual(len(found), 3)
        codes = [measured for measured, _ in measures]
        told = code_rank(codes, width) == code_rank(codes + [code], width)
        self.assertEqual(found[0], "sure" if told else "open")
        if told:
            _, fraction, weights = found
            self.assertIs(type(weights), tuple)
            self.assertEqual(len(weights), len(measures))
            self.assertEqual([pair(Fraction(*weight)) for weight in weights], list(weights))
            self.assertEqual(together(codes, weights, width), counts(code, width))
            self.assertEqual(pair(worth(measures, weights)), fraction)
        else:
            for prices in found[1:]:
                self.assertIs(type(prices), Prices)
                self.assertEqual((prices.rows, prices.width), (rows, width))
                for measured, fraction in measures:
                    self.assertEqual(pair(slow_price(prices, measured)), fraction)
            self.assertNotEqual(slow_price(found[1], code), slow_price(found[2], code))
        return found[0]

    def test_example(self):
        self.assertEqual(sure("ab", 1, [("aab", (4, 1)), ("ab", (3, 1))], "a"), ("sure", (1, 1), ((1, 1), (-1, 1))))

    def test_drawn(self):
        kinds = {"sure": 0, "open": 0}
        for seed in range(500):
            rows, width, measures, code = drawn_case(seed)
            if can_fit(width, measures):
                kinds[self.check_sure(rows, width, measures, code)] += 1
        self.assertGreater(min(kinds.values()), 100)

    def test_empty_code(self):
        for measures in ([], [("ab", (3, 2))], [("", (0, 1)), ("ab", (3, 2)), ("ba", (3, 2))]):
            self.assertEqual(self.check_sure("ab", 1, measures, ""), "sure")
            self.assertEqual(sure("ab", 1, measures, "")[1], (0, 1))
        self.assertEqual(sure("ab", 2, (), ""), ("sure", (0, 1), ()))

    def test_nothing_is_measured(self):
        for code in ("a", "ab", "b" * 200):
            self.assertEqual(self.check_sure("ab", 2, [], code), "open")

    def test_codes_twice(self):
        measures = [("ab", (3, 2)), ("ab", (3, 2)), ("ba", (7, 3))]
        self.assertEqual(self.check_sure("ab", 2, measures, "ab"), "sure")
        self.assertEqual(self.check_sure("ab", 2, measures, "abab"), "open")

    def test_great_numbers(self):
        measures = [("a" * 200, (GREAT, GREAT - 1)), ("ab" * 100, (-GREAT, 10 ** 59)), ("ba" * 99, (GREAT, 3))]
        self.assertEqual(self.check_sure("ab", 1, measures[:2], "bbb" + "a" * 7), "sure")
        self.assertEqual(self.check_sure("ab", 3, measures, "bbb" + "a" * 7), "open")

    def test_equal_calls_have_equal_answers(self):
        for seed in range(60):
            rows, width, measures, code = drawn_case(seed)
            if can_fit(width, measures):
                self.assertEqual(sure(rows, width, measures, code), sure(rows, width, list(measures), code))
                self.assertEqual(sure(rows, width, measures, code), sure(rows, width, tuple(measures), code))


class BetweenTest(unittest.TestCase):

    def slow_ends(self, width, measures, slack, code):
        """The least and the greatest price of a code that is told, by trying all corners of the weights.

        The least bound of weights w0 + t * z is at a corner where as many weights are 0 as there are ways to change.
        """
        codes = [measured for measured, _ in measures]
        many = code_rank(codes, width)
        best = []
        for sign in (1, -1):
            bounds = []
            for chosen in itertools.combinations(range(len(measures)), many):
                lot = [codes[at] for at in chosen]
                if code_rank(lot, width) == many:
                    weights = self.solved(lot, width, code)
                    bounds.append(sum((sign * Fraction(*measures[at][1]) * weight + Fraction(*slack) * abs(weight)
                                       for at, weight in zip(chosen, weights)), Fraction(0)))
            best.append(sign * min(bounds))
        return pair(best[1]), pair(best[0])

    def solved(self, codes, width, code):
        """The weights with which independent codes have just the stretches of the code, by elimination."""
        names = sorted({name for word in [*codes, code] for name in counts(word, width)})
        lines = [[Fraction(counts(word, width).get(name, 0)) for word in [*codes, code]] for name in names]
        done = 0
        for column in range(len(codes)):
            at = next(k for k in range(done, len(lines)) if lines[k][column])
            lines[done], lines[at] = lines[at], lines[done]
            lines[done] = [many / lines[done][column] for many in lines[done]]
            for k in range(len(lines)):
                if k != done and lines[k][column]:
                    lines[k] = [many - lines[k][column] * other for many, other in zip(lines[k], lines[done])]
            done += 1
        return [line[-1] for line in lines[:done]]

    def least_slack(self, width, measures):
        """The least slack up to which prices fit: it is reached by a smallest lot of codes that hang together."""
        least = Fraction(0)
        for many in range(1, len(measures) + 1):
            for lot in itertools.combinations(measures, many):
                codes = [code for code, _ in lot]
                if code_rank(codes, width) == many - 1 and all(
                        code_rank(codes[:at] + codes[at + 1:], width) == many - 1 for at in range(many)):
                    weights = [-weight for weight in self.solved(codes[1:], width, codes[0])]
                    weights = [Fraction(1), *weights]
                    off = sum(weight * Fraction(*measured) for weight, (_, measured) in zip(weights, lot))
                    least = max(least, abs(off) / sum(map(abs, weights)))
        return least

    def test_slack_0_is_what_sure_tells(self):
        kinds = {"sure": 0, "open": 0}
        for seed in range(300):
            rows, width, measures, code = drawn_case(seed)
            if can_fit(width, measures):
                told = sure(rows, width, measures, code)
                kinds[told[0]] += 1
                wanted = (told[1], told[1]) if told[0] == "sure" else None
                self.assertEqual(between(rows, width, measures, (0, 1), code), wanted)
        self.assertGreater(min(kinds.values()), 50)

    def test_plain_ends(self):
        measures = [("a", (3, 1)), ("b", (5, 1))]
        self.assertEqual(between("ab", 1, measures, (1, 2), "a"), ((5, 2), (7, 2)))
        self.assertEqual(between("ab", 1, measures, (1, 2), "ab"), ((7, 1), (9, 1)))
        self.assertEqual(between("ab", 1, measures, (1, 2), "aab"), ((19, 2), (25, 2)))
        self.assertIsNone(between("ab", 2, measures, (1, 2), "ab"))
        self.assertEqual(between("ab", 2, measures, (1, 2), ""), ((0, 1), (0, 1)))
        # Three measures of one code: only what all of them let.
        thrice = [("a", (3, 1)), ("a", (4, 1)), ("a", (5, 1))]
        self.assertEqual(between("a", 1, thrice, (1, 1), "a"), ((4, 1), (4, 1)))
        self.assertEqual(between("a", 1, thrice, (3, 2), "aaa"), ((21, 2), (27, 2)))
        self.assertEqual(raised(between, "a", 1, thrice, (9, 10), "a"), ("Clash", {}))
        # A long code is measured better than a short one.
        self.assertEqual(between("a", 1, [("a" * 10, (30, 1))], (1, 1), "a"), ((29, 10), (31, 10)))

    def test_drawn_ends(self):
        kinds = {"told": 0, "none": 0, "clash": 0}
        for seed in range(300):
            rows, width, measures, code = drawn_case(seed)
            measures = measures[:6]
            draw = random.Random(seed)
            measures = [(word, pair(Fraction(*measured) + Fraction(draw.randint(-2, 2), 3)))
                        for word, measured in measures]
            slack = pair(Fraction(draw.randint(0, 6), draw.choice((1, 2, 3, 5))))
            codes = [word for word, _ in measures]
            if self.least_slack(width, measures) > Fraction(*slack):
                kinds["clash"] += 1
                self.assertEqual(raised(between, rows, width, measures, slack, code), ("Clash", {}))
            elif code_rank(codes, width) != code_rank(codes + [code], width):
                kinds["none"] += 1
                self.assertIsNone(between(rows, width, measures, slack, code))
            else:
                kinds["told"] += 1
                found = between(rows, width, measures, slack, code)
                self.assertEqual(found, self.slow_ends(width, measures, slack, code))
                self.assertIs(type(found), tuple)
        self.assertGreater(min(kinds.values()), 40, kinds)

    def test_ends_are_reached_and_not_passed(self):
        done = 0
        for seed in range(200):
            rows, width, measures, code = drawn_case(seed)
            measures = measures[:7]
            slack = pair(Fraction(seed % 5, 1 + seed % 3))
            if raised(between, rows, width, measures, slack, code):
                continue
            ends = between(rows, width, measures, slack, code)
            if ends is None or code == "":
                continue
            done += 1
            for end, sign in zip(ends, (-1, 1)):
                # Measured beside, so far beyond that just the end is let.
                for off, fits in ((Fraction(0), True), (Fraction(1, 10 ** 9), False)):
                    beyond = pair(Fraction(*end) + sign * (Fraction(*slack) + off))
                    error = raised(between, rows, width, measures + [(code, beyond)], slack, "")
                    self.assertEqual(error, None if fits else ("Clash", {}))
        self.assertGreater(done, 50)

    def test_least_slack_just_lets(self):
        done = 0
        for seed in range(250):
            rows, width, measures, _ = drawn_case(seed)
            measures = measures[:6]
            least = self.least_slack(width, measures)
            self.assertIsNone(raised(between, rows, width, measures, pair(least), "a" if "a" in rows else ""))
            if least:
                done += 1
                less = pair(least - Fraction(1, 10 ** 12))
                self.assertEqual(raised(between, rows, width, measures, less, ""), ("Clash", {}))
        self.assertGreater(done, 20)

    def test_great_numbers(self):
        slack = (10 ** 59 + 1, 10 ** 59)
        measures = [("a" * 200, (GREAT, GREAT - 1)), ("ab" * 100, (-GREAT, 10 ** 59 - 3)), ("ba" * 99, (GREAT, 3))]
        for code in ("a", "b", "ab" * 100):
            self.assertEqual(raised(between, "ab", 1, measures, slack, code), ("Clash", {}))
            self.assertEqual(between("ab", 1, measures[:2], slack, code),
                             self.slow_ends(1, measures[:2], slack, code))
        far = (10 ** 59, 1)
        self.assertEqual(between("ab", 1, measures, far, "aab"), self.slow_ends(1, measures, far, "aab"))


class SideTest(unittest.TestCase):

    def paper(self, rows, width, measures, slack, code):
        """Weights for the greatest price of a code that is told, by trying all lots of codes that tell it."""
        codes = [measured for measured, _ in measures]
        many = code_rank(codes, width)
        found = None
        for chosen in itertools.combinations(range(len(measures)), many):
            lot = [codes[at] for at in chosen]
            if code_rank(lot, width) == many:
                few = BetweenTest.solved(self, lot, width, code)
                weights = [Fraction(0)] * len(measures)
                for at, weight in zip(chosen, few):
                    weights[at] = weight
                bound = sum((Fraction(*measures[at][1]) * weight + Fraction(*slack) * abs(weight)
                             for at, weight in enumerate(weights)), Fraction(0))
                if found is None or bound < found[0]:
                    found = (bound, tuple(pair(weight) for weight in weights))
        return found

    def test_there_are_weights_for_the_greatest_price(self):
        done = 0
        for seed in range(250):
            rows, width, measures, code = drawn_case(seed)
            measures = measures[:6]
            slack = pair(Fraction(seed % 4, 1 + seed % 5))
            if raised(between, rows, width, measures, slack, code):
                continue
            ends = between(rows, width, measures, slack, code)
            if ends is None:
                continue
            done += 1
            bound, weights = self.paper(rows, width, measures, slack, code)
            self.assertEqual(pair(bound), ends[1])
            given = (rows, width, measures, slack, code)
            self.assertIs(is_side(*given, ends[1], weights), True)
            self.assertIs(is_side(*given, pair(bound + 1), weights), True)
            self.assertIs(is_side(*given, pair(bound - Fraction(1, 10 ** 40)), weights), False)
            self.assertIs(is_side(*given, ends[1], weights + ((0, 1),)), False)
            if weights:
                self.assertIs(is_side(*given, ends[1], weights[:-1]), False)
                self.check_spoiled(given, code, width, ends[1], weights)
            self.assertIs(is_side(*given, ends[1], list(weights)), False)
        self.assertGreater(done, 80)

    def check_spoiled(self, given, code, width, bound, weights):
        far = pair(Fraction(*bound) + 10 ** 9)
        for at, (top, bottom) in enumerate(weights):
            for thing in spoiled_fractions(weights[at]):
                if thing != weights[at] or type(thing) is not tuple:
                    self.assertIs(is_side(*given, far, weights[:at] + (thing,) + weights[at + 1:]), False, thing)
            other = pair(Fraction(top, bottom) + Fraction(1, 7))
            right = given[2][at][0] == ""
            self.assertIs(is_side(*given, far, weights[:at] + (other,) + weights[at + 1:]), right)

    def test_no_error_for_what_is_judged(self):
        for measures in ([("a", (1, 1))], [("a", (1, 1)), ("a", (2, 1))], []):
            for thing in odd_things() + [deep("tuple"), ((1, 1), deep("tuple")), ((1, deep("list")),), M]:
                wanted = measures == [] and thing == () and type(thing) is tuple
                self.assertIs(is_side("ab", 1, measures, (0, 1), "", (0, 1), thing), wanted, thing)
                self.assertIs(is_side("ab", 1, measures, (0, 1), "a", (9, 1), thing), False, thing)

    def test_where_no_prices_fit(self):
        # No prices fit, so that even a bound below all prices of the code has weights.
        measures = [("a", (1, 1)), ("a", (2, 1))]
        self.assertIs(is_side("a", 1, measures, (0, 1), "a", (-8, 1), ((10, 1), (-9, 1))), True)
        self.assertIs(is_side("a", 1, measures, (0, 1), "a", (-9, 1), ((10, 1), (-9, 1))), False)

    def test_slack_counts_by_amounts(self):
        measures = [("aab", (4, 1)), ("ab", (3, 1))]
        weights = ((1, 1), (-1, 1))
        for slack, bound in (((0, 1), (1, 1)), ((1, 4), (3, 2)), ((5, 1), (11, 1))):
            self.assertIs(is_side("ab", 1, measures, slack, "a", bound, weights), True)
            less = pair(Fraction(*bound) - Fraction(1, 9))
            self.assertIs(is_side("ab", 1, measures, slack, "a", less, weights), False)
        self.assertIs(is_side("ab", 1, tuple(measures), (0, 1), "a", (1, 1), weights), True)
        # For the width 2 the stretches are others.
        self.assertIs(is_side("ab", 2, measures, (0, 1), "a", (1, 1), weights), False)
        # A stretch more, and one that is lacking.
        self.assertIs(is_side("abc", 1, measures, (0, 1), "ac", (9, 1), weights), False)
        self.assertIs(is_side("abc", 1, measures, (0, 1), "", (9, 1), weights), False)


class EnoughTest(unittest.TestCase):

    def slow_enough(self, width, codes):
        return [at for at in range(len(codes)) if code_rank(codes[:at + 1], width) > code_rank(codes[:at], width)]

    def test_against_ranks(self):
        lacking = 0
        for seed in range(300):
            draw = random.Random(seed)
            rows = draw.choice(("a", "ab", "abcd"))
            width = draw.randint(1, 3)
            codes = [drawn_code(draw, rows, draw.choice((2, 5))) for _ in range(draw.randint(0, 12))]
            found = enough_codes(rows, width, codes)
            self.assertEqual(found, self.slow_enough(width, codes))
            self.assertIs(type(found), list)
            self.assertEqual(found, enough_codes(rows, width, tuple(codes)))
            lacking += len(found) < len(codes)
        self.assertGreater(lacking, 100)

    def test_they_make_all_sure(self):
        for seed in range(40):
            draw = random.Random(seed)
            codes = [drawn_code(draw, "ab", 4) for _ in range(draw.randint(1, 12))]
            found = enough_codes("ab", 1 + seed % 2, codes)
            if len(found) > 8:
                continue
            measures = [(codes[at], (at, 1)) for at in found]
            for code in codes:
                self.assertEqual(sure("ab", 1 + seed % 2, measures, code)[0], "sure")
            for at in range(len(found)):
                few = measures[:at] + measures[at + 1:]
                self.assertIn("open", [sure("ab", 1 + seed % 2, few, code)[0] for code in codes])

    def test_twice_empty_and_sizes(self):
        self.assertEqual(enough_codes("ab", 1, ["a", "a", "b", "ab", "b"]), [0, 2])
        self.assertEqual(enough_codes("ab", 1, ["", "ab", "", "ba", "a"]), [1, 4])
        self.assertEqual(enough_codes("ab", 2, ["", "ab", "", "ba", "a"]), [1, 3, 4])
        self.assertEqual(enough_codes("ab", 2, []), [])
        self.assertEqual(enough_codes("ab", 2, ()), [])
        twelve = ["a" * 200] * 11 + ["b" * 200]
        self.assertEqual(enough_codes("ab", 3, twelve), [0, 11])
        for codes in (twelve + [""], tuple(twelve) + ("a",)):
            self.assertEqual(raised(enough_codes, "ab", 3, codes), ("NoCodes", {}))

    def test_no_codes(self):
        wrong = [thing for thing in odd_things() if thing not in ([], (), ["a"], ("a",))]
        for thing in odd_things() + ["c", "^a", "a ", ("a",), ["a"]]:
            if not isinstance(thing, str) or set(thing) - set("ab"):
                wrong += [[thing], ("a", thing)]
        for thing in wrong + [{"a": 1}, "ab", {0: "a"}, iter(["a"])]:
            self.assertEqual(raised(enough_codes, "ab", 1, thing), ("NoCodes", {}), thing)

    def test_new_lists(self):
        codes = ["a", "b"]
        enough_codes("ab", 1, codes).append("spoiled")
        self.assertEqual(enough_codes("ab", 1, codes), [0, 1])
        self.assertEqual(codes, ["a", "b"])


if __name__ == "__main__":
    unittest.main()
