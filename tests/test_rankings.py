"""Promises 20 and 21: rankings, full rules, dictators and verdicts."""

import itertools
import random
import unittest

from plainask import rankings as module
from plainask.errors import AskError, BadRule
from plainask.rankings import dictator, full_rule, never, rankings, verdict
from plainask.rules import Rule
from plainask.sealed import first_lie
from tests.samples import first_come, indifferent, majority, plain_rules, small_rules, some_rule, table_of

# The number of rankings of as many outcomes.
MANY = {1: 1, 2: 2, 3: 6, 4: 24, 5: 120}


class RankingsTests(unittest.TestCase):
    def test_by_hand(self):
        self.assertEqual(rankings(1), [(0,)])
        self.assertEqual(rankings(2), [(0, 1), (1, 0)])
        self.assertEqual(rankings(outcomes=3), [(0, 1, 2), (0, 2, 1), (1, 0, 2), (1, 2, 0), (2, 0, 1), (2, 1, 0)])

    def test_up_to_five_outcomes(self):
        for outcomes, many in MANY.items():
            found = rankings(outcomes)
            self.assertIs(type(found), list)
            self.assertEqual(len(found), many)
            self.assertEqual(found, sorted(itertools.permutations(range(outcomes))))
            self.assertTrue(all(type(ranking) is tuple for ranking in found))
            found.clear()
            self.assertEqual(len(rankings(outcomes)), many)


class FullRuleTests(unittest.TestCase):
    def test_standings_and_worths(self):
        for parties, outcomes in [(1, 1), (1, 2), (2, 2), (1, 3), (2, 3), (3, 3), (1, 4), (2, 4), (1, 5), (8, 1)]:
            source = random.Random(parties)
            table = [source.randrange(outcomes) for _ in range(MANY[outcomes] ** parties)]
            rule = full_rule(parties, outcomes, table)
            self.assertIs(type(rule), Rule)
            self.assertEqual([rule.parties, rule.outcomes], [parties, outcomes])
            self.assertEqual(rule.sizes, (MANY[outcomes],) * parties)
            for party in range(parties):
                for standing, ranking in enumerate(rankings(outcomes)):
                    for at, outcome in enumerate(ranking):
                        self.assertEqual(rule.worth(party, standing, outcome), len(ranking[at + 1:]))
            self.assertEqual(table_of(rule), table)

    def test_by_hand(self):
        rule = full_rule(parties=1, outcomes=3, table=[0, 0, 1, 1, 2, 2])
        self.assertEqual([[rule.worth(0, standing, outcome) for outcome in range(3)] for standing in range(6)],
                         [[2, 1, 0], [2, 0, 1], [1, 2, 0], [0, 2, 1], [1, 0, 2], [0, 1, 2]])
        self.assertEqual(rule((3,)), 1)

    def test_the_table_is_copied(self):
        table = [0, 1, 1, 0]
        rule = full_rule(2, 2, table)
        table[0] = 1
        table.clear()
        self.assertEqual(table_of(rule), [0, 1, 1, 0])
        table = [0, 1, 1, 0]
        full_rule(2, 2, table)
        self.assertEqual(table, [0, 1, 1, 0])
        self.assertEqual(table_of(full_rule(2, 2, (0, 1, 1, 0))), [0, 1, 1, 0])

    def test_a_bad_table(self):
        for parties, outcomes in [(1, 1), (1, 2), (2, 2), (2, 3), (1, 5)]:
            table = [0] * MANY[outcomes] ** parties
            for wrong in ([], table[1:], [*table, 0], [0] * parties if outcomes > 2 else []):
                self.refuse("table", parties, outcomes, wrong)
            for entry in (outcomes, outcomes + 1, -1, True, False, None, "0", (0,), [0]):
                self.refuse("table", parties, outcomes, [*table[1:], entry])
                self.refuse("table", parties, outcomes, [entry, *table[1:]])

    def test_no_parties(self):
        for table in ([], [0], [True]):
            self.refuse("worths", 0, 3, table)

    def test_far_too_many_combinations_are_not_listed(self):
        self.refuse("table", 8, 5, [0])

    def refuse(self, part, parties, outcomes, table):
        with self.assertRaises(BadRule) as caught:
            full_rule(parties, outcomes, table)
        self.assertEqual(caught.exception.part, part)
        self.assertIsInstance(caught.exception, AskError)


def expected_never(rule):
    return tuple(sorted(set(range(rule.outcomes)) - set(table_of(rule))))


def is_dictator(rule, party):
    return all(rule.worth(party, combination[party], outcome) <= rule.worth(party, combination[party], rule(combination))
               for combination in rule.full for outcome in range(rule.outcomes))


def expected_dictator(rule):
    return next((party for party in range(rule.parties) if is_dictator(rule, party)), None)


def dictated(parties, outcomes, party):
    """The table of the full rule in which the party gets its best outcome."""
    return [combination[party][0] for combination in itertools.product(rankings(outcomes), repeat=parties)]


class NeverAndDictatorTests(unittest.TestCase):
    def test_by_hand(self):
        self.assertEqual([never(first_come()), dictator(first_come())], [(), 0])
        self.assertEqual([never(rule=majority()), dictator(rule=majority())], [(), None])
        self.assertEqual(never(Rule([[[0] * 5] * 2], [3, 1])), (0, 2, 4))
        self.assertEqual(never(Rule([[[0] * 3] * 2], [1, 1])), (0, 2))
        self.assertEqual(dictator(Rule([[[0, 1]], [[1, 0], [1, 0]], [[0, 0]]], [0, 0])), 1)
        self.assertEqual(dictator(indifferent((2, 2), [0, 1, 1, 0], 2)), 0)

    def test_the_dictator_gets_the_best_of_all_outcomes(self):
        # Outcome 2 comes for no combination, and it is the best one.
        self.assertIsNone(dictator(Rule([[[1, 0, 2], [0, 1, 2]]], [0, 1])))
        self.assertEqual(dictator(Rule([[[1, 0, 1], [0, 1, -2]]], [0, 1])), 0)

    def test_many_rules(self):
        seen = set()
        for rule in [*small_rules(), *plain_rules(), *(some_rule(seed, (2, 2), 2, 0, 1) for seed in range(60))]:
            for _ in range(2):
                self.assertEqual(never(rule), expected_never(rule))
                self.assertIs(type(never(rule)), tuple)
                self.assertEqual(dictator(rule), expected_dictator(rule))
            seen.add(dictator(rule))
        self.assertLessEqual({None, 0, 1}, seen)

    def test_full_rules(self):
        for parties, outcomes in [(1, 3), (2, 3), (3, 3), (2, 4), (1, 5)]:
            for party in range(parties):
                rule = full_rule(parties, outcomes, dictated(parties, outcomes, party))
                self.assertEqual([never(rule), dictator(rule)], [(), party])


class VerdictTests(unittest.TestCase):
    def test_each_of_the_four_answers(self):
        self.assertEqual(verdict(Rule([[[0] * 4] * 2], [3, 1])), ("never", 0))
        self.assertEqual(verdict(Rule([[[0] * 4] * 3], [0, 1, 3])), ("never", 2))
        self.assertEqual(verdict(first_come()), ("dictator", 0))
        self.assertEqual(verdict(rule=full_rule(2, 3, dictated(2, 3, 1))), ("dictator", 1))
        self.assertEqual(verdict(Rule([[[0, 1], [1, 0]]], [0, 1])), ("lie", 0, (0,), 1))
        self.assertIsNone(verdict(majority()))

    def test_the_first_that_applies(self):
        # An outcome that never comes goes before a dictator, and a dictator before a lie.
        self.assertEqual(verdict(Rule([[[1, 0, 0]]], [0])), ("never", 1))
        rule = Rule([[[0, 1], [1, 0]], [[0, 0]]], [0, 1])
        self.assertEqual(first_lie(rule), (0, (0, 0), 1))
        self.assertEqual(verdict(rule), ("dictator", 1))
        rule = Rule([[[0, 1], [1, 0]], [[0, 1]]], [0, 1])
        self.assertEqual(verdict(rule), ("lie", 0, (0, 0), 1))

    def test_many_rules(self):
        seen = set()
        for rule in [*small_rules(), *plain_rules(), *(some_rule(seed, (2, 2), 2, 0, 1) for seed in range(60))]:
            expected = self.expected(rule)
            for _ in range(2):
                self.assertEqual(verdict(rule), expected)
            seen.add(expected and expected[0])
        self.assertEqual(seen, {"never", "dictator", "lie", None})

    def expected(self, rule):
        if expected_never(rule):
            return ("never", expected_never(rule)[0])
        if expected_dictator(rule) is not None:
            return ("dictator", expected_dictator(rule))
        lie = first_lie(rule)
        return None if lie is None else ("lie", *lie)

    def test_full_rules_are_never_without_a_verdict(self):
        source = random.Random(7)
        seen = set()
        for parties, outcomes, many in [(1, 3, 60), (2, 3, 60), (3, 3, 15), (1, 4, 30), (2, 4, 6), (1, 5, 20)]:
            every = list(itertools.product(rankings(outcomes), repeat=parties))
            tables = [[source.randrange(outcomes) for _ in every] for _ in range(many)]
            tables += [dictated(parties, outcomes, party) for party in range(parties)]
            for party in range(parties):
                # One entry that differs from a dictator's.
                table = dictated(parties, outcomes, party)
                table[source.randrange(len(table))] = source.randrange(outcomes)
                tables.append(table)
            # The outcome with the greatest sum of worths, the least one of several; and what most rank first.
            tables.append([max(range(outcomes), key=lambda at: -sum(row.index(at) for row in rows)) for rows in every])
            tables.append([max(range(outcomes), key=[row[0] for row in rows].count) for rows in every])
            tables.append([0] * len(every))
            for table in tables:
                rule = full_rule(parties, outcomes, table)
                found = verdict(rule)
                self.assertIsNotNone(found)
                self.assertEqual(found, self.expected(rule))
                seen.add(found[0])
        self.assertEqual(seen, {"never", "dictator", "lie"})

    def test_over_two_outcomes_it_may_be_none(self):
        every = list(itertools.product(range(2), repeat=3))
        self.assertIsNone(verdict(full_rule(3, 2, [int(sum(standings) > 1) for standings in every])))

    def test_nothing_is_changed(self):
        rule = some_rule(1, (3, 3), 2)
        before = (rule.worths, table_of(rule), rule.full.sides)
        for function in (never, dictator, verdict):
            function(rule)
        self.assertEqual((rule.worths, table_of(rule), rule.full.sides), before)


class InterfaceTests(unittest.TestCase):
    def test_defined_in_the_file(self):
        for name in ("rankings", "full_rule", "dictator", "never", "verdict"):
            self.assertEqual(getattr(module, name).__module__, "plainask.rankings")


if __name__ == "__main__":
    unittest.main()
