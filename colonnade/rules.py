"""Rules: small changes of plans that keep the answer, and the best plan made by them."""

from colonnade.codedly import STAGES, stage_after
from colonnade.errors import RuleRefused
from colonnade.filters import Within
from colonnade.needs import steps_at
from colonnade.patterns import MOST_WEIGHT, holds_always, numbers_told, test_weight
from colonnade.plans import Plan, plain_plan
from colonnade.relations import is_enough, strongest
from colonnade.values import is_integer_from

BEST_SIZE = 8
MOST_SIZE = 999


def _test_at(plan, at):
    """Return the test with this index, or None if there is none or it is too heavy to be changed."""
    question = plan.question
    if not is_integer_from(at, 0, len(question.tests) - 1):
        return None
    test = question.tests[at]
    return test if test_weight(test, question.shapes) <= MOST_WEIGHT else None


def _plan_of(question, openings, passing, size):
    """Return the plan with openings for just the books that the question names."""
    named = {book: openings[book] for book in question.books_named()}
    return Plan(question, named, passing=passing, size=size)


def _with_tests(plan, tests):
    return _plan_of(plan.question.with_tests(tests), plan.openings, plan.passing, plan.size)


def _with_opening(plan, book, stage):
    return _plan_of(plan.question, {**plan.openings, book: stage}, plan.passing, plan.size)


def _swapped(plan, at, kept):
    tests = plan.question.tests
    if not is_integer_from(at, 0, len(tests) - 2):
        return None
    return _with_tests(plan, [*tests[:at], tests[at + 1], tests[at], *tests[at + 2:]])


def _listed(plan, at, kept):
    test = _test_at(plan, at)
    if test is None or isinstance(test, Within):
        return None
    numbers = numbers_told(test, plan.question.shapes)
    if numbers is None:
        return None
    tests = plan.question.tests
    return _with_tests(plan, [*tests[:at], Within(test.columns_used()[0], numbers), *tests[at + 1:]])


def _dropped(plan, at, kept):
    test = _test_at(plan, at)
    if test is None or not holds_always(test, plan.question.shapes):
        return None
    tests = plan.question.tests
    return _with_tests(plan, [*tests[:at], *tests[at + 1:]])


def _is_named(plan, book):
    return isinstance(book, str) and book in plan.question.books_named()


def _opened_later(plan, book, kept):
    if not _is_named(plan, book) or plan.openings[book] == "tell":
        return None
    stage = plan.openings[book]
    needs = [need for step, need in steps_at(plan.question, book, stage)]
    if not is_enough(kept[book], strongest(*needs)):
        return None
    return _with_opening(plan, book, stage_after(stage))


def _opened_earlier(plan, book, kept):
    if not _is_named(plan, book) or plan.openings[book] == "scan":
        return None
    return _with_opening(plan, book, STAGES[STAGES.index(plan.openings[book]) - 1])


def _with_passing(plan, flag, kept):
    if not isinstance(flag, bool):
        return None
    return _plan_of(plan.question, plan.openings, flag, plan.size)


def _with_size(plan, number, kept):
    if not is_integer_from(number, 1, MOST_SIZE):
        return None
    return _plan_of(plan.question, plan.openings, plan.passing, number)


# Each of these returns the changed plan, or None if the rule is not allowed.
CHANGES = {
    "swap": _swapped, "list": _listed, "drop": _dropped, "later": _opened_later, "earlier": _opened_earlier,
    "passing": _with_passing, "size": _with_size,
}


def _changed(plan, rule, kept):
    if not isinstance(rule, tuple) or len(rule) != 2 or not isinstance(rule[0], str) or rule[0] not in CHANGES:
        return None
    change = CHANGES[rule[0]]
    return change(plan, rule[1], kept)


def apply_rule(plan, rule, kept):
    """Return what a rule makes of a plan, for the told relations of its books."""
    changed = _changed(plan, rule, kept)
    if changed is None:
        raise RuleRefused(rule)
    return changed


def follow(question, rules, kept):
    """Return what the rules make of the plain plan, one after the other."""
    plan = plain_plan(question)
    for rule in rules:
        plan = apply_rule(plan, rule, kept)
    return plan


class Choosing:
    """A plan, and the rules that have made it of the plain plan so far."""

    def __init__(self, question, kept):
        self.plan = plain_plan(question)
        self.rules = []
        self.kept = kept

    def takes(self, rule):
        """Tell whether the rule is allowed; apply it if it is."""
        changed = _changed(self.plan, rule, self.kept)
        if changed is None:
            return False
        self.plan = changed
        self.rules.append(rule)
        return True


def _best_choosing(question, kept):
    chosen = Choosing(question, kept)
    for at in reversed(range(len(question.tests))):
        chosen.takes(("drop", at))
    for at in range(len(chosen.plan.question.tests)):
        chosen.takes(("list", at))
    for book in chosen.plan.question.books_named():
        while chosen.takes(("later", book)):
            pass
    chosen.takes(("passing", True))
    chosen.takes(("size", BEST_SIZE))
    return chosen


def best_rules(question, kept):
    """Return the list of the rules that make the best plan of the plain one."""
    return _best_choosing(question, kept).rules


def best_plan(question, kept):
    """Return the best plan of a question for the told relations."""
    return _best_choosing(question, kept).plan
