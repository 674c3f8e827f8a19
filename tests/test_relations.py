import itertools
import unittest

from colonnade.errors import NoRelation
from colonnade.relations import RELATIONS, evidence, is_enough, kept_by, strongest, weakest

from tests.helpers import check_raises, check_unchanged


def keeps(pairs, relation):
    """Point 5, word by word."""
    both = list(itertools.product(pairs, pairs))
    if relation == "none" or not pairs:
        return True
    if relation == "same":
        return all((a[0] == b[0]) == (a[1] == b[1]) for a, b in both)
    if relation == "order":
        return all((a[0] < b[0]) == (a[1] < b[1]) for a, b in both)
    if isinstance(pairs[0][0], str):
        return False
    if relation == "distance":
        return len({code - value for value, code in pairs}) == 1
    return all(value == code for value, code in pairs)


def kept_plainly(pairs):
    return [relation for relation in RELATIONS if keeps(pairs, relation)][-1]


def evidence_plainly(pairs):
    kept = kept_plainly(pairs)
    numbers = bool(pairs) and not isinstance(pairs[0][0], str)
    if kept in ("none", "same") or (kept == "order" and numbers):
        needed = RELATIONS[RELATIONS.index(kept) + 1]
        for i, j in itertools.combinations(range(len(pairs)), 2):
            if not keeps([pairs[i], pairs[j]], needed):
                return [pairs[i], pairs[j]]
    if kept == "distance":
        return [pair for pair in pairs if pair[0] != pair[1]][:1]
    return []


class RelationsTest(unittest.TestCase):
    def test_relations_from_weakest(self):
        self.assertEqual(RELATIONS, ("none", "same", "order", "distance", "value"))

    def test_is_enough(self):
        for i, kept in enumerate(RELATIONS):
            for j, needed in enumerate(RELATIONS):
                self.assertIs(is_enough(kept, needed), i >= j)

    def test_weakest_and_strongest(self):
        self.assertEqual(weakest(), "value")
        self.assertEqual(strongest(), "none")
        self.assertEqual(weakest("distance", "same", "order"), "same")
        self.assertEqual(strongest("same", "distance", "order"), "distance")
        for relation in RELATIONS:
            self.assertEqual((weakest(relation), strongest(relation)), (relation, relation))

    def test_no_relation(self):
        check_raises(self, NoRelation, {"name": "x"}, is_enough, "x", "y")
        check_raises(self, NoRelation, {"name": "y"}, is_enough, "same", "y")
        check_raises(self, NoRelation, {"name": ""}, is_enough, "", "same")
        for choose in (weakest, strongest):
            check_raises(self, NoRelation, {"name": "Same"}, choose, "none", "Same", "value", "other")
            check_raises(self, NoRelation, {"name": "sum"}, choose, "sum")

    def test_kept_at_most(self):
        cases = (
            ([], "value"),
            ([(5, 5)], "value"), ([(5, 5), (-2, -2)], "value"),
            ([(5, 6)], "distance"), ([(5, 15), (3, 13), (5, 15)], "distance"),
            ([(5, 6), (3, 3)], "order"), ([(0, 0), (1, 1), (2, 3)], "order"),
            ([(1, 2), (2, 1)], "same"), ([(1, 2), (2, 1), (1, 2)], "same"),
            ([(1, 2), (1, 3)], "none"), ([(1, 2), (2, 2)], "none"),
            ([("a", 0)], "order"), ([("a", 0), ("b", 7)], "order"), ([("a", 3), ("a", 3)], "order"),
            ([("a", 1), ("b", 0)], "same"), ([("a", 1), ("b", 1)], "none"), ([("a", 1), ("a", 2)], "none"),
        )
        for pairs, kept in cases:
            self.assertEqual(check_unchanged(self, kept_by, pairs), kept, pairs)

    def test_evidence_of_each_case(self):
        cases = (
            ([], []),
            ([(5, 5)], []),
            ([(5, 6), (7, 8)], [(5, 6)]),
            ([(5, 6), (7, 8), (9, 11)], [(5, 6), (9, 11)]),
            ([(1, 1), (5, 8), (7, 7)], [(5, 8), (7, 7)]),
            ([(0, 0), (1, 5), (2, 5), (0, 0), (1, 7)], [(1, 5), (2, 5)]),
            ([(1, 5), (2, 5), (1, 7)], [(1, 5), (2, 5)]),
            ([("a", 0), ("b", 9)], []),
            ([("a", 0), ("b", 9), ("c", 4)], [("b", 9), ("c", 4)]),
            ([("a", 0), ("b", 9), ("a", 1)], [("a", 0), ("a", 1)]),
        )
        for pairs, shown in cases:
            self.assertEqual(check_unchanged(self, evidence, pairs), shown, pairs)

    def test_against_plain_definition(self):
        numbers = list(itertools.product((0, 1, 3), (0, 1, 2, 3)))
        words = list(itertools.product(("a", "b", "ba"), (0, 1, 2)))
        for pool in (numbers, words):
            for many in range(4):
                for pairs in itertools.product(pool, repeat=many):
                    pairs = list(pairs)
                    self.assertEqual(kept_by(pairs), kept_plainly(pairs), pairs)
                    self.assertEqual(evidence(pairs), evidence_plainly(pairs), pairs)

    def test_many_pairs(self):
        pairs = [(k, 2 * k) for k in range(997)] + [(2000, 3002), (2001, 3000)]
        self.assertEqual(kept_by(pairs), "same")
        self.assertEqual(evidence(pairs), [(2000, 3002), (2001, 3000)])


if __name__ == "__main__":
    unittest.main()
