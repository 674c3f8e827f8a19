import itertools
import random
import unittest

from colonnade.books import Book
from colonnade.checker import AnswerClaim, Claim, CuttingClaim, FoundClaim, MendingClaim, PlanClaim, accepts
from colonnade.cutting import Cutting, cheapest_cutting
from colonnade.disks import Disk
from colonnade.engine import work
from colonnade.houses import House
from colonnade.mending import Mending, leads, mend_book
from colonnade.papers import answer_paper, found_paper
from colonnade.plainly import plain_answer
from colonnade.plans import Plan, plain_plan
from colonnade.reading import read_question
from colonnade.records import found_records, last_found, read_records
from colonnade.rules import best_plan, best_rules, follow

from tests.asking import CHAINS, SHAPES, question_for, scene_for
from tests.helpers import check_unchanged, frozen
from tests.histories import shop_books, step_for
from tests.housing import falls_of, thresholds
from tests.test_houses import LITTLE, do_step
from tests.test_papers import PEOPLE, SAME, people

ODD = (0, -1, 1, 2, 5, 10 ** 30, -10 ** 30, "", "a", "always", "never", "open", "t", "n", "scan", "tell", True, False)


class ClaimTest(unittest.TestCase):
    def takes(self, claim, paper):
        """Check that the paper is accepted, and that nothing has changed."""
        before = frozen(paper)
        self.assertIs(check_unchanged(self, accepts, claim, paper), True)
        self.assertIs(claim.accepts(paper), True)
        self.assertEqual(frozen(paper), before)

    def refuses(self, claim, paper):
        self.assertIs(accepts(claim, paper), False, paper)
        self.assertIs(claim.accepts(paper), False)

    def test_base_class(self):
        for claim in (AnswerClaim, PlanClaim, MendingClaim, CuttingClaim, FoundClaim):
            self.assertTrue(issubclass(claim, Claim))
            self.assertIn("accepts", vars(claim))
        self.assertIs(accepts(Claim(), []), False)


def variants(value):
    """Yield values like this one, each with one integer or string in it changed or one entry left out or doubled."""
    if isinstance(value, dict):
        for key in value:
            yield {other: part for other, part in value.items() if other != key}
            for odd in ODD:
                yield {odd if other == key else other: part for other, part in value.items()}
            for part in variants(value[key]):
                yield {**value, key: part}
        for odd in ODD:
            for part in list(value.values())[:1]:
                yield {**value, odd: part}
    elif isinstance(value, (list, tuple)):
        kind = value.__class__
        for at, part in enumerate(value):
            yield kind([*value[:at], *value[at + 1:]])
            yield kind([*value[:at], part, *value[at:]])
            yield kind([*value[at:], *value[:at]])
            for odd in variants(part):
                yield kind([*value[:at], odd, *value[at + 1:]])
        for odd in ODD:
            yield kind([*value, odd])
            yield kind([odd, *value])
        yield kind([])
    else:
        yield from ODD
        if isinstance(value, int) and not isinstance(value, bool):
            yield from (value - 1, value + 1, -value)


class AnswerClaimTest(ClaimTest):
    # The codes of a are 10, 20, 30, 31, 10; the place 2 is not seen.
    question = read_question("from t where a < 4 and c < 9 tell w order w", PEOPLE)
    scene = people(unseen={"t": [2]})
    rows = [("f",), ("m",)]
    claim = AnswerClaim(question, scene, rows)
    covers = ((0, 1, "always", {"a": (10, 10), "c": (1, 1)}), (1, 2, "never", {"a": (20, 20), "c": (9, 9)}),
              (3, 4, "never", {"a": (31, 31), "c": (1, 1)}), (4, 5, "always", {"a": (10, 10), "c": (5, 5)}))

    def paper(self, changes=None, **told):
        """Return the paper with other covers at some indexes."""
        covers = [(changes or {}).get(at, cover) for at, cover in enumerate(self.covers)]
        return {"t": tuple([cover for cover in covers if cover is not None]), **told}

    def changed(self, at, **told):
        names = ("start", "end", "reason", "box")
        return self.paper({at: tuple([told.get(name, part) for name, part in zip(names, self.covers[at])])})

    def test_own_paper(self):
        self.assertEqual(answer_paper(self.question, self.scene), self.paper())
        self.takes(self.claim, self.paper())

    def test_other_papers_that_are_right(self):
        wide = {"a": (0, 29), "c": (-99, 8)}
        for paper in (
            self.changed(0, box={"c": (1, 8), "a": (9, 25)}), self.changed(0, box=wide),
            self.paper({1: (1, 2, "never", {"a": (-5, 99), "c": (9, 10 ** 30)}), 2: (2, 4, "never", {"a": (30, 31), "c": (0, 99)})}),
            # The place 2 is not seen: its row counts for nothing, be it in a cover or not.
            self.paper({1: (1, 3, "never", {"a": (20, 20), "c": (9, 9)})}),
            self.paper({2: None, 3: None}, t=(*self.covers[:2], (2, 3, "always", wide), *self.covers[2:])),
        ):
            self.takes(self.claim, paper)

    def test_wrong_tables(self):
        for paper in ({}, {"u": self.covers}, self.paper(u=()), self.paper(v=self.covers), {"T": self.covers}, {0: self.covers}):
            self.refuses(self.claim, paper)

    def test_places(self):
        # Places that are seen lie in no cover.
        for at in range(4):
            self.refuses(self.claim, self.paper({at: None}))
        self.refuses(self.claim, {"t": ()})
        for paper in (
            self.changed(3, end=6), self.changed(3, end=10 ** 30), self.changed(0, start=-1), self.changed(0, end=0),
            self.changed(0, end=2), self.changed(2, start=4), self.changed(2, start=1), self.changed(3, start=5),
            self.changed(3, start=3), {"t": self.covers[::-1]}, {"t": self.covers + self.covers},
            {"t": (self.covers[0],) * 2 + self.covers[1:]},
            {"t": (*self.covers, (5, 6, "always", self.covers[0][3]))}, {"t": (*self.covers, (5, 5, "always", self.covers[0][3]))},
        ):
            self.refuses(self.claim, paper)

    def test_places_beside_a_cover_that_would_suit_them(self):
        question = read_question("from t where c < 10 tell c", PEOPLE)
        claim = AnswerClaim(question, people(), [(1,), (9,), (2,), (1,), (5,)])
        for covers, good in (([(0, 5)], True), ([(0, 2), (2, 5)], True), ([(1, 5)], False), ([(0, 4)], False),
                             ([(0, 2), (3, 5)], False), ([(0, 1), (2, 3), (3, 5)], False)):
            paper = {"t": tuple([(start, end, "always", {"c": (0, 9)}) for start, end in covers])}
            (self.takes if good else self.refuses)(claim, paper)

    def test_boxes(self):
        good = self.covers[0][3]
        for box in ({}, {"a": (10, 10)}, {"c": (1, 1)}, {**good, "w": (5, 5)}, {**good, "d": (5, 5)}, {**good, 0: (1, 1)},
                    {**good, "a": (20, 10)}, {**good, "c": (2, 1)}, {**good, "c": (2, 2)}, {**good, "a": (20, 20)},
                    {**good, "c": (0, 0)}, {**good, "a": (11, 20)}, {**good, "a": ("10", "10")}, {**good, "a": (10, "x")},
                    {**good, "a": (10,)}, {**good, "a": (10, 10, 10)}, {**good, "a": [10, 10]}, {**good, "c": (True, True)},
                    {**good, "a": 10}, {**good, "a": (10, 30)}, {**good, "c": (1, 9)}):
            self.refuses(self.claim, self.changed(0, box=box))
        # Also a cover without a seen place is as it must be.
        for box, reason, good in (({"a": (30, 30), "c": (1, 1)}, "never", True), ({"a": (30, 30), "c": (1, 1)}, "always", False),
                                  ({"a": (20, 30), "c": (1, 1)}, "never", False), ({"a": (20, 30), "c": (1, 1)}, "open", False),
                                  ({"a": (10, 10), "c": (1, 1)}, "always", True), ({"a": (10, 9), "c": (1, 1)}, "always", False)):
            paper = {"t": (*self.covers[:2], (2, 3, reason, box), *self.covers[2:])}
            (self.takes if good else self.refuses)(self.claim, paper)

    def test_reasons(self):
        for at, wrong in ((0, "never"), (1, "always"), (2, "always"), (3, "never")):
            for reason in (wrong, "open", "", "Always", 0, True, "always "):
                self.refuses(self.claim, self.changed(at, reason=reason))

    def test_covers_of_another_form(self):
        cover = self.covers[0]
        for wrong in ((), cover[:3], (*cover, 0), list(cover), ("0", 1, *cover[2:]), (0, "1", *cover[2:]), (False, True, *cover[2:]),
                      (*cover[:3], ()), (*cover[:3], [("a", (10, 10))]), (*cover[:2], cover[3], cover[2]), "cover", 0, None):
            self.refuses(self.claim, self.paper({0: wrong}) if wrong is not None else {"t": [None, *self.covers[1:]]})
        for covers in ([], "covers", 0, {}, list(self.covers)):
            self.refuses(self.claim, {"t": covers})
        for paper in ([], "paper", 0, (), [self.covers]):
            self.refuses(self.claim, paper)

    def test_claims_that_are_not_so(self):
        for rows in ([], [("f",)], [("m",), ("f",)], [("f",), ("m",), ("m",)], [("f", 1), ("m", 1)], [("f",), ("t",)]):
            self.refuses(AnswerClaim(self.question, self.scene, rows), self.paper())
        other = people(unseen={"t": [2, 4]})
        self.refuses(AnswerClaim(self.question, other, self.rows), self.paper())
        self.takes(AnswerClaim(self.question, other, [("f",)]), self.paper())

    def test_the_rows_are_what_they_were_when_the_claim_was_made(self):
        rows = list(self.rows)
        claim = AnswerClaim(self.question, self.scene, rows)
        rows.append(("x",))
        self.takes(claim, self.paper())

    def test_books_that_keep_only_sameness(self):
        scene = people(SAME)
        question = read_question("from t where a < 4 tell c", PEOPLE)
        # The codes of a are 30, 20, 10, 31, 30.
        claim = AnswerClaim(question, scene, [(1,), (9,), (5,)])
        paper = answer_paper(question, scene)
        self.takes(claim, paper)
        self.refuses(claim, {"t": ((0, 2, "always", {"a": (20, 30)}), *paper["t"][2:])})
        self.refuses(claim, {"t": ((0, 1, "always", {"a": (29, 30)}), *paper["t"][1:])})
        self.refuses(claim, {"t": (*paper["t"], (5, 5, "never", {"a": (31, 31)}))})

    def test_joins_and_cross_tests(self):
        question = read_question("from u join t on d = a where d < 9 and a >= d and c = 1 tell w, d order d", PEOPLE)
        scene = people()
        rows = plain_answer(question, scene.all_rows())
        self.assertEqual(rows, [("f", 1), ("f", 8)])
        paper = answer_paper(question, scene)
        self.takes(AnswerClaim(question, scene, rows), paper)
        self.takes(AnswerClaim(question, scene, rows), dict(reversed(list(paper.items()))))
        self.refuses(AnswerClaim(question, scene, rows), {"u": paper["u"]})
        self.refuses(AnswerClaim(question, scene, rows), {"u": paper["t"], "t": paper["u"]})
        self.refuses(AnswerClaim(question, scene, rows), {**paper, "u": ((0, 1, "always", {"d": (10, 10)}),)})

    def test_drawn_papers(self):
        # Whatever is handed in: what is accepted is so.
        dice = random.Random(111)
        taken = 0
        for _ in range(25):
            question, scene = question_for(dice, joined=1), scene_for(dice, most=3)
            rows = plain_answer(question, scene.all_rows())
            paper = answer_paper(question, scene)
            wrong = [rows[:-1], rows + rows[-1:] + [(1,)], rows[::-1]]
            claims = [AnswerClaim(question, scene, other) for other in wrong if other != rows]
            right = AnswerClaim(question, scene, rows)
            self.takes(right, paper)
            for other in [paper, *itertools.islice(variants(paper), 400)]:
                taken += right.accepts(other)
                for claim in claims:
                    self.assertIs(claim.accepts(other), False)
        self.assertGreater(taken, 50)


class PlanClaimTest(ClaimTest):
    question = read_question("from sales where many = many and day < 5 and not many <> 3 tell city, day order day", SHAPES)
    kept = {"places": "same", "days": "order"}

    def test_own_paper(self):
        plan, rules = best_plan(self.question, self.kept), best_rules(self.question, self.kept)
        self.takes(PlanClaim(self.question, self.kept, plan), rules)
        self.takes(PlanClaim(self.question, self.kept, plain_plan(self.question)), [])

    def test_other_rules_that_make_the_same_plan(self):
        plan, rules = best_plan(self.question, self.kept), best_rules(self.question, self.kept)
        self.takes(PlanClaim(self.question, self.kept, plan), [("size", 3), ("passing", False), *rules])
        self.takes(PlanClaim(self.question, self.kept, plan), [("swap", 0), ("swap", 0), *rules])

    def test_wrong_rules(self):
        plan, rules = best_plan(self.question, self.kept), best_rules(self.question, self.kept)
        claim = PlanClaim(self.question, self.kept, plan)
        for at in range(len(rules)):
            self.refuses(claim, rules[:at] + rules[at + 1:])
            for rule in ((), ("swap",), ("swap", "0"), (0, 0), ("list", 10 ** 30), ("later", 5), ("later", "nothing"), "swap",
                         0, ("size", 10 ** 30), ("passing", 1), ("size", True), ("drop", -1), ("swap", 0, "a"), ("", ""),
                         ("earlier", ("days",)), ["swap", 0], ("later", "days", "days")):
                self.refuses(claim, rules[:at] + [rule] + rules[at:])
        for paper in ([], rules[::-1], rules + rules, rules + [("size", 9)], tuple(rules), "rules", 0, {}, {"a": ()}):
            self.refuses(claim, paper)

    def test_each_part_of_a_plan(self):
        plan, rules = best_plan(self.question, self.kept), best_rules(self.question, self.kept)
        for other in (
            Plan(plan.question, plan.openings, passing=False), Plan(plan.question, plan.openings, size=7),
            Plan(plan.question, {**plan.openings, "days": "order"}), Plan(plan.question, {}), Plan(self.question, plan.openings),
            Plan(plan.question, {**plan.openings, "money": "tell"}),
        ):
            self.refuses(PlanClaim(self.question, self.kept, other), rules)
        same = Plan(read_question(plan.question.text, SHAPES), dict(reversed(list(plan.openings.items()))))
        self.takes(PlanClaim(self.question, self.kept, same), rules)

    def test_claims_that_are_not_so(self):
        # With codes that keep only sameness, days may not be opened later than the test that compares them.
        plan, rules = best_plan(self.question, self.kept), best_rules(self.question, self.kept)
        self.refuses(PlanClaim(self.question, {**self.kept, "days": "same"}, plan), rules)
        other = read_question("from sales where day < 5 tell city, day order day", SHAPES)
        self.refuses(PlanClaim(other, self.kept, plan), rules)

    def test_relations_as_they_were_told(self):
        kept = dict(self.kept)
        claim = PlanClaim(self.question, kept, best_plan(self.question, kept))
        kept["days"] = "none"
        self.takes(claim, best_rules(self.question, self.kept))

    def test_drawn_papers(self):
        dice = random.Random(112)
        taken = 0
        for _ in range(40):
            question, scene = question_for(dice), scene_for(dice)
            kept = scene.relations()
            plan, rules = best_plan(question, kept), best_rules(question, kept)
            claim = PlanClaim(question, kept, plan)
            self.takes(claim, rules)
            for other in itertools.islice(variants(rules), 250):
                if claim.accepts(other):
                    taken += 1
                    made = follow(question, other, kept)
                    self.assertEqual(made.lines(), plan.lines())
                    self.assertEqual(work(made, scene).rows, plain_answer(question, scene.all_rows()))
        self.assertGreater(taken, 20)


def least_cost(book, room, weights):
    """Return the least cost of a mending, found by trying all sets of entries that keep their codes."""
    told = leads(book)
    fit = [at for at, lead in enumerate(told) if 0 <= lead <= room - len(told)]
    best = None
    for many in range(len(fit) + 1):
        for kept in itertools.combinations(fit, many):
            if all(told[one] <= told[other] for one, other in zip(kept, kept[1:])):
                cost = sum(weights.get(value, 0) for at, (value, code) in enumerate(book.entries) if at not in kept)
                best = cost if best is None else min(best, cost)
    return best


class MendingClaimTest(ClaimTest):
    # The leads are 1, 3, 1, 2: b clashes with c and d.
    book = Book("word", 1, [("a", 1), ("b", 4), ("c", 3), ("d", 5)])
    weights = {"a": 2, "b": 3, "d": 4, "zz": 9}

    def setUp(self):
        self.mending = mend_book(self.book, 8, self.weights)
        self.claim = MendingClaim(self.book, 8, self.weights, self.mending.cost)

    def paper(self, **told):
        parts = {name: getattr(self.mending, name) for name in ("book", "cost", "kept", "chains")}
        return Mending(*{**parts, **told}.values())

    def test_own_paper(self):
        self.assertEqual(self.mending.cost, least_cost(self.book, 8, self.weights))
        self.takes(self.claim, self.mending)
        self.takes(self.claim, self.paper())

    def test_kept_values_are_not_looked_at(self):
        for kept in ((), ("a",), ("zz", 5), (0, "", 10 ** 30)):
            self.takes(self.claim, self.paper(kept=kept))

    def test_wrong_books(self):
        entries = self.mending.book.entries
        for book in (
            Book("word", 9, entries), Book("word", 7, entries), Book("word", 8, entries[:-1]), Book("word", 8),
            Book("word", 8, [*entries[:-1], ("e", entries[-1][1])]), Book("word", 8, [*entries, ("e", 7)]),
            Book("number", 8, [(1, 1), (2, 2), (3, 3), (4, 5)]), Book("word", 8, [*entries[:-1], (entries[-1][0], 8)]),
            self.book, Book("word", 8, [(value, at + 2) for at, (value, code) in enumerate(entries)]),
            # A stray that weighs nothing.
            Book("word", 8, [(value, 9 if value == "c" else code) for value, code in entries]),
        ):
            self.refuses(self.claim, self.paper(book=book))
        claim = MendingClaim(Book("word", 5), 3, {}, 0)
        self.takes(claim, Mending(Book("word", 3), 0, (), ()))
        self.refuses(claim, Mending(Book("number", 3), 0, (), ()))
        self.refuses(claim, Mending(None, 0, (), ()))

    def test_true_is_no_integer(self):
        book = Book("number", 1, [(1, 1), (2, 0)])
        mending = mend_book(book, 2, {1: 1, 2: 1})
        self.assertEqual(mending.cost, 2)
        book = Book("number", 1, [(1, 3), (2, 2)])
        mending = mend_book(book, 4, {1: 1, 2: 1})
        claim = MendingClaim(book, 4, {1: 1, 2: 1}, 1)
        self.takes(claim, mending)
        self.refuses(claim, Mending(mending.book, True, mending.kept, mending.chains))
        self.refuses(claim, Mending(mending.book, 1, mending.kept, ((True, (1, 2)),)))

    def test_wrong_costs(self):
        for cost in (self.mending.cost - 1, self.mending.cost + 1, 0, -1, str(self.mending.cost), True, 10 ** 30, ""):
            self.refuses(self.claim, self.paper(cost=cost))
            if cost.__class__ is int:
                self.refuses(MendingClaim(self.book, 8, self.weights, cost), self.paper())
                self.refuses(MendingClaim(self.book, 8, self.weights, cost), self.paper(cost=cost))
        # A mending that is not the cheapest one.
        other = Book("word", 8, [("a", 0), ("b", 2), ("c", 4), ("d", 5)])
        for chains in (self.mending.chains, (*self.mending.chains, (1, ("a",))), self.mending.chains[1:]):
            for cost in (3, 5, 6):
                self.refuses(MendingClaim(self.book, 8, self.weights, cost), self.paper(book=other, cost=cost, chains=chains))

    def test_chains(self):
        chains = self.mending.chains
        self.assertEqual(sum(weight for weight, values in chains), 9 - self.mending.cost)
        for wrong in (
            chains[:-1], chains + chains[:1], (), ((1, ("a",)),), tuple([(weight + 1, values) for weight, values in chains]),
            tuple([(weight - 1, values) for weight, values in chains]), (*chains, (0, ("a",))), (*chains, (-1, ("a",))),
            (*chains[:-1], (chains[-1][0], ())), (*chains[:-1], (chains[-1][0], ("zz",))),
            (*chains[:-1], (str(chains[-1][0]), chains[-1][1])), (*chains[:-1], (chains[-1][0], list(chains[-1][1]))),
            (*chains[:-1], (chains[-1][0], ("a", 5, "b"))), (*chains[:-1], (chains[-1][0], (5, "a"))),
            (*chains[:-1], (chains[-1][0], ("a", "a"))), (*chains[:-1], chains[-1][::-1]), (*chains[:-1], chains[-1][:1]),
            (*chains[:-1], (*chains[-1], 1)), (*chains[:-1], 5), ("a", "b"), (5, 6), ((True, ("a",)), *chains[1:]),
            (*chains[:-1], (chains[-1][0], "ab")),
        ):
            self.refuses(self.claim, self.paper(chains=wrong))
        # Values with equal leads can keep their codes together.
        self.refuses(self.claim, self.paper(chains=((2, ("a", "c")), (3, ("b", "d")), (1, ("d",)))))
        self.takes(self.claim, self.paper(chains=((2, ("a",)), (3, ("b", "d")), (1, ("d",)))))
        # The same weights in other pieces, or in chains that leave out what weighs nothing, show it too.
        parts = tuple([(1, values) for weight, values in chains for _ in range(weight)])
        self.takes(self.claim, self.paper(chains=parts))
        self.takes(self.claim, self.paper(chains=chains[::-1]))

    def test_values_that_do_not_clash(self):
        book = Book("number", 1, [(1, 1), (2, 5), (3, 4), (4, 15)])
        # The leads are 1, 4, 2, 12 in a room of 20: only 2 and 3 clash.
        mending = mend_book(book, 20, {1: 1, 2: 1, 3: 1, 4: 1})
        claim = MendingClaim(book, 20, {1: 1, 2: 1, 3: 1, 4: 1}, 1)
        self.takes(claim, mending)
        for chains in (((1, (1, 2)), (1, (3,)), (1, (4,))), ((1, (1,)), (1, (2, 4)), (1, (3,))), ((1, (1,)), (1, (3, 2)), (1, (4,))),
                       ((1, (1,)), (1, (2, 3, 4)), (1, (4,))), ((1, (4, 1)), (1, (2,)), (1, (3,))),
                       ((1, (True,)), (1, (2, 3)), (1, (4,)))):
            self.refuses(claim, Mending(mending.book, 1, mending.kept, chains))
        self.takes(claim, Mending(mending.book, 1, (), ((1, (1,)), (1, (2, 3)), (1, (4,)))))
        # Entries that are not fit are in no chain.
        small = MendingClaim(book, 4, {1: 1, 2: 1, 3: 1, 4: 1}, 4)
        self.takes(small, Mending(Book("number", 4, [(1, 0), (2, 1), (3, 2), (4, 3)]), 4, (), ()))
        self.refuses(small, Mending(Book("number", 4, [(1, 0), (2, 1), (3, 2), (4, 3)]), 3, (), ((1, (1,)),)))
        self.refuses(MendingClaim(book, 4, {1: 1, 2: 1, 3: 1, 4: 1}, 3),
                     Mending(Book("number", 4, [(1, 0), (2, 1), (3, 2), (4, 3)]), 3, (), ((1, (1,)),)))

    def test_values_without_a_weight(self):
        claim = MendingClaim(self.book, 8, {}, 0)
        self.takes(claim, mend_book(self.book, 8, {}))
        shifted = Book("word", 8, [("a", 0), ("b", 2), ("c", 4), ("d", 6)])
        self.takes(claim, Mending(shifted, 0, (), ()))
        self.refuses(claim, Mending(shifted, 1, (), ()))
        self.refuses(claim, Mending(shifted, 0, (), ((1, ("a",)),)))

    def test_cover_weights(self):
        book = Book("number", 1, [(1, 3), (2, 2), (3, 8)])
        # The leads are 3, 1, 6: 1 and 2 clash.
        weights = {1: 3, 2: 2, 3: 5}
        mended = Book("number", 9, [(1, 3), (2, 4), (3, 8)])
        claim = MendingClaim(book, 9, weights, 2)
        for chains, good in ((((2, (1, 2)), (1, (1,)), (5, (3,))), True), (((3, (1, 2)), (5, (3,))), True),
                             (((1, (1, 2)), (2, (1,)), (5, (3,))), False), (((3, (1,)), (5, (3,))), False),
                             (((2, (1, 2)), (1, (2,)), (5, (3,))), False), (((4, (1, 2)), (4, (3,))), False)):
            (self.takes if good else self.refuses)(claim, Mending(mended, 2, (1, 3), chains))

    def test_papers_of_other_kinds(self):
        for paper in (0, "mending", [], {}, (), self.mending.book, Cutting([1], 1, [0, 1])):
            self.refuses(self.claim, paper)

    def test_weights_as_they_were_told(self):
        weights = dict(self.weights)
        claim = MendingClaim(self.book, 8, weights, self.mending.cost)
        weights["a"] = 99
        self.takes(claim, self.mending)

    def test_drawn_papers(self):
        dice = random.Random(113)
        taken = 0
        for _ in range(60):
            many = dice.randint(0, 5)
            codes = dice.sample(range(9), many)
            book = Book("number", 1, [(value, code + 1) for value, code in enumerate(codes)])
            room, weights = dice.randint(max(1, many), 10), {value: dice.randint(0, 3) for value in range(many)}
            mending = mend_book(book, room, weights)
            least = least_cost(book, room, weights)
            self.assertEqual(mending.cost, least)
            self.takes(MendingClaim(book, room, weights, least), mending)
            for _ in range(30):
                kept = sorted(dice.sample(range(room), many))
                mended = Book("number", room, list(enumerate(kept)))
                cost = sum(weights[value] for value, code in book.entries if mended.code_of(value) != code)
                chains = dice.choice((mending.chains, tuple([
                    (dice.randint(1, 3), tuple(dice.sample(range(many), dice.randint(1, many)))) for _ in range(dice.randint(0, 4))
                    if many])))
                found = MendingClaim(book, room, weights, cost).accepts(Mending(mended, cost, (), chains))
                taken += found
                if found:
                    self.assertEqual(cost, least)
            for chains in itertools.islice(variants(mending.chains), 150):
                for cost in (least, least + 1, least - 1):
                    found = MendingClaim(book, room, weights, cost).accepts(Mending(mending.book, cost, (), chains))
                    self.assertTrue(not found or cost == least)
        self.assertGreater(taken, 30)


class CuttingClaimTest(ClaimTest):
    columns = [[5, 5, 5, 5, 7, 7, 9, 1], [0, 1, 2, 3, 4, 5, 6, 7]]
    chains = ["plain", "runs plain", "runs steps plain", "base lanes"]

    def setUp(self):
        self.cutting = cheapest_cutting(self.columns, self.chains, most=5, head=2)
        self.claim = CuttingClaim(self.columns, self.chains, 5, 2, self.cutting.price)

    def paper(self, **told):
        parts = {name: getattr(self.cutting, name) for name in ("ends", "price", "prices")}
        return Cutting(*{**parts, **told}.values())

    def test_own_paper(self):
        self.takes(self.claim, self.cutting)

    def test_wrong_ends(self):
        ends = self.cutting.ends
        for wrong in ((), (8,), ends[:-1], (0, *ends), (*ends, 9), ends[::-1], (*ends, 8), tuple(range(1, 9)), (3, 2, 8), ("8",),
                      tuple([str(end) for end in ends]), (-1, *ends), (True, *ends), (*ends[:-1], 10 ** 30), (7, 8), (1, 7, 8)):
            self.assertNotEqual(wrong, ends)
            self.refuses(self.claim, self.paper(ends=wrong))

    def test_wrong_prices(self):
        prices = self.cutting.prices
        for wrong in ((), prices[:-1], (*prices, prices[-1]), (1, *prices[1:]), (*prices[:-1], prices[-1] + 1), (0,) * 9,
                      tuple([price + 1 for price in prices]), (*prices[:-1], str(prices[-1])), (False, *prices[1:]), prices[::-1],
                      tuple([price * 2 for price in prices]), (*prices[:4], 10 ** 30, *prices[5:]),
                      (*prices[:3], "a", *prices[4:])):
            self.refuses(self.claim, self.paper(prices=wrong))

    def test_wrong_price(self):
        for price in (self.cutting.price - 1, self.cutting.price + 1, 0, -5, str(self.cutting.price), 10 ** 30, True):
            self.refuses(self.claim, self.paper(price=price))
            if price.__class__ is int:
                other = CuttingClaim(self.columns, self.chains, 5, 2, price)
                self.refuses(other, self.paper())
                self.refuses(other, self.paper(price=price))
                self.refuses(other, self.paper(price=price, prices=(*self.cutting.prices[:-1], price)))

    def test_other_border_prices_may_show_it(self):
        # In front of a block's end, prices may be lower than the least ones.
        claim = CuttingClaim([[1, 1, 1]], ["runs plain"], 3, 1, 4)
        cutting = cheapest_cutting([[1, 1, 1]], ["runs plain"], most=3, head=1)
        self.assertEqual((cutting.ends, cutting.prices), ((3,), (0, 4, 4, 4)))
        for prices, good in (((0, 4, 4, 4), True), ((0, 3, 4, 4), True), ((0, 0, 0, 4), True), ((0, 4, 0, 4), True),
                             ((0, 2, 3, 4), True), ((0, -1, 4, 4), False), ((0, 5, 4, 4), False), ((0, 4, -1, 4), False),
                             ((0, 4, 5, 4), False), ((0, 0, 4, 4), True), ((0, 0, 5, 4), False)):
            paper = Cutting([3], 4, prices)
            (self.takes if good else self.refuses)(claim, paper)

    def test_true_is_no_integer(self):
        claim = CuttingClaim([[5]], ["plain"], 1, 0, 1)
        self.takes(claim, Cutting([1], 1, [0, 1]))
        for ends, price, prices in (([True], 1, [0, 1]), ([1], True, [0, 1]), ([1], 1, [False, 1]), ([1], 1, [0, True])):
            self.refuses(claim, Cutting(ends, price, prices))

    def test_most_and_head_and_chains_count(self):
        cutting = self.cutting
        for most, head, chains in ((2, 2, self.chains), (5, 3, self.chains), (5, 2, ["plain"]), (8, 0, self.chains)):
            claim = CuttingClaim(self.columns, chains, most, head, cutting.price)
            wanted = cheapest_cutting(self.columns, chains, most=most, head=head)
            self.takes(CuttingClaim(self.columns, chains, most, head, wanted.price), wanted)
            if wanted.price != cutting.price:
                self.refuses(claim, cutting)
                self.refuses(claim, wanted)

    def test_papers_of_other_kinds(self):
        for paper in (0, "cutting", [], {}, (), Mending(Book("word", 5), 0, (), ())):
            self.refuses(self.claim, paper)

    def test_lists_as_they_were_told(self):
        columns, chains = [list(column) for column in self.columns], list(self.chains)
        claim = CuttingClaim(columns, chains, 5, 2, self.cutting.price)
        columns[0][0] = 99
        columns.pop()
        chains.clear()
        self.takes(claim, self.cutting)

    def test_drawn_papers(self):
        dice = random.Random(114)
        for _ in range(25):
            many = dice.randint(1, 6)
            columns = [[dice.randint(0, 3) for _ in range(many)] for _ in range(dice.randint(1, 2))]
            chains = ["plain", *dice.sample(CHAINS, 3)]
            most, head = dice.randint(1, 4), dice.randint(0, 3)
            cutting = cheapest_cutting(columns, chains, most=most, head=head)
            self.takes(CuttingClaim(columns, chains, most, head, cutting.price), cutting)
            for ends in itertools.islice(variants(cutting.ends), 60):
                found = CuttingClaim(columns, chains, most, head, cutting.price).accepts(Cutting(ends, cutting.price, cutting.prices))
                self.assertTrue(not found or sum(ends[-1:]) == many)
            for prices in itertools.islice(variants(cutting.prices), 120):
                for price in (cutting.price, cutting.price + 1, cutting.price - 1):
                    for ends in (cutting.ends, tuple(range(1, many + 1))):
                        found = CuttingClaim(columns, chains, most, head, price).accepts(Cutting(ends, price, prices))
                        self.assertTrue(not found or price == cutting.price)


class FoundClaimTest(ClaimTest):
    def falls(self):
        house = House(LITTLE, shop_books())
        house.commit({"sales": [(5,)]})
        house.commit({"sales": [(7,)]})
        house.commit(None, {"sales": [0]})
        return house, house.disk.fall({"log": house.disk.length("log"), "*.money.0": 4, "sales.*.0": 5})

    def test_own_paper(self):
        house, fallen = self.falls()
        self.assertEqual(last_found(fallen), 0)
        self.assertEqual(found_paper(fallen), ["sales.price.0", "*.money.0", "*.money.0"])
        self.takes(FoundClaim(fallen, 0), found_paper(fallen))
        self.takes(FoundClaim(house.disk, 3), [])

    def test_other_names_that_are_right(self):
        fallen = self.falls()[1]
        claim = FoundClaim(fallen, 0)
        for paper in itertools.product(["sales.price.0"], ["*.money.0", "sales.*.0", "sales.price.0"],
                                       ["*.money.0", "sales.*.0", "sales.price.0"]):
            self.takes(claim, list(paper))

    def test_wrong_names(self):
        fallen = self.falls()[1]
        claim = FoundClaim(fallen, 0)
        good = found_paper(fallen)
        for at in range(3):
            self.refuses(claim, good[:at] + good[at + 1:])
            for name in ("", "log", "sales.price.1", "sales.price", "nothing", 0, True, 10 ** 30):
                self.refuses(claim, good[:at] + [name] + good[at + 1:])
            self.refuses(claim, good[:at] + good[at:at + 1] + good[at:])
        # These files are long enough for the first commit.
        for name in ("*.money.0", "sales.*.0"):
            self.refuses(claim, [name, *good[1:]])
        for paper in ([], good + [""], tuple(good), 0, "paper", {}, {name: name for name in good}, [good]):
            self.refuses(claim, paper)

    def test_claims_that_are_not_so(self):
        house, fallen = self.falls()
        good = found_paper(fallen)
        for number in (1, 2, 3, 4, -1, 10 ** 30):
            for paper in (good, good[1:], good[2:], [], good * 2):
                self.refuses(FoundClaim(fallen, number), paper)
        for number in (0, 1, 2, 4, -1):
            for paper in ([], ["*.money.0"] * (3 - number), ["sales.*.0"] * (3 - number)):
                self.refuses(FoundClaim(house.disk, number), paper)

    def test_disks_without_a_record(self):
        for disk in (Disk(), Disk().fall({})):
            for number in (0, -1, 1):
                self.refuses(FoundClaim(disk, number), [])
                self.refuses(FoundClaim(disk, number), ["log"])

    def test_the_record_itself_must_be_found(self):
        fallen = self.falls()[1]
        good = found_paper(fallen)
        fallen.strike("sales.*.0")
        self.refuses(FoundClaim(fallen, 0), good)

    def test_the_disk_as_it_is_then(self):
        house, fallen = self.falls()
        claim, good = FoundClaim(fallen, 0), found_paper(fallen)
        self.takes(claim, good)
        for name in ("sales.price.0", "*.money.0", "sales.*.0"):
            for cell in house.disk.read(name)[fallen.length(name):]:
                fallen.put(name, cell)
        self.refuses(claim, good)
        self.takes(FoundClaim(fallen, 3), [])

    def test_drawn_papers(self):
        dice = random.Random(115)
        for _ in range(6):
            house = House(LITTLE, shop_books(dice))
            for _ in range(3):
                do_step(house, step_for(dice, house.store))
            for fallen in itertools.islice(falls_of(house.disk, thresholds(house.disk)), 0, None, 7):
                paper = found_paper(fallen)
                for number in range(len(read_records(fallen.read("log")))):
                    claim = FoundClaim(fallen, number)
                    for other in [paper, paper[1:], *itertools.islice(variants(paper), 25)]:
                        if claim.accepts(other):
                            self.assertEqual(number, found_records(fallen)[-1])
                self.takes(FoundClaim(fallen, last_found(fallen)), paper)


if __name__ == "__main__":
    unittest.main()
