"""Plans: what words hang on, definitions unwound, and words put away."""

from tellwords.bounds import MAX_SIGNS, MAX_UNWOUND
from tellwords.books import rule_error
from tellwords.errors import Ringed, TooLong
from tellwords.formulas import (
    KINDS, all_parts, formula_error, replaced, signs, with_all_replaced, words_in, words_of,
)


def plan_error(kinds, letters, value):
    """What is wrong with value as a plan for a vocabulary; None if nothing is."""
    if not isinstance(value, tuple):
        return (None, "plan")
    ahead = []
    for index, item in enumerate(value):
        error = pair_error(kinds, letters, item, ahead)
        if error is not None:
            return (index, error)
        ahead.append(item[0])
    return None


def pair_error(kinds, letters, value, ahead):
    """What is wrong with value as a pair of a plan, behind pairs with the words ahead."""
    if not isinstance(value, tuple) or len(value) != 2:
        return "pair"
    word, formula = value
    if word not in words_of(kinds, letters):
        return "word"
    if word in ahead:
        return "twice"
    if word in KINDS:
        return formula_error(kinds, letters, formula)
    return rule_error(kinds, letters, formula)


def ring(plan):
    """The first one of the shortest rings of a plan; None if there is none."""
    hanging = words_hung_on(plan)
    # All of the same length, in ascending order.
    chains = [(word,) for word in sorted(list(hanging))]
    while len(chains) > 0:
        rings = [chain for chain in chains if chain[0] in hanging[chain[-1]]]
        if len(rings) > 0:
            return rings[0]
        chains = [
            (*chain, word) for chain in chains for word in hanging[chain[-1]] if word not in chain
        ]
    return None


def words_hung_on(plan):
    """For each word of a plan the ascending list of the words of the plan that it hangs on."""
    words = [word for word, _ in plan]
    return {
        word: [standing for standing in words_in(formula) if standing in words]
        for word, formula in plan
    }


def unwound(plan):
    """The plan with its words replaced by their formulas in these, till none is left there."""
    ringed = ring(plan)
    if ringed is not None:
        raise Ringed(ringed)
    order = inner_first(words_hung_on(plan))
    formulas = {word: formula for word, formula in plan}
    sizes = {}
    for word in order:
        sizes[word] = signs_with(formulas[word], sizes)
    for index, (word, _) in enumerate(plan):
        if sizes[word] > MAX_UNWOUND:
            raise TooLong(index)
    made = {}
    for word in order:
        made[word] = with_all_replaced(formulas[word], made)
    return tuple([(word, made[word]) for word, _ in plan])


def inner_first(hanging):
    """The words of a plan without a ring, each one behind those that it hangs on."""
    order = []
    while len(order) < len(hanging):
        ready = [
            word
            for word in list(hanging)
            if word not in order and all([other in order for other in hanging[word]])
        ]
        order.extend(ready)
    return order


def signs_with(formula, sizes):
    """The number of signs of a formula if words in it had as many as sizes tells."""
    parts = all_parts(formula)
    return sum([sizes.get(part, 1) if isinstance(part, str) else 1 for part in parts])


def book_of(kinds, letters, plan):
    """The book with a rule for each pair of a plan: the word is where its formula holds."""
    rules = tuple([defining(word, formula) for word, formula in plan])
    for index, rule in enumerate(rules):
        if signs(rule) > MAX_SIGNS:
            raise TooLong(index)
    return (kinds, letters, rules)


def defining(word, formula):
    """The rule that a word is just where a formula holds."""
    both = ("or", ("and", word, formula), ("and", ("not", word), ("not", formula)))
    return ("all", both) if word in KINDS else both


def put_away(book, word, other):
    """The book with the formula other in the place of word in all rules."""
    kinds, letters, rules = book
    sizes = {word: signs(other)}
    for index, rule in enumerate(rules):
        # Counted before it is written out: that may be long.
        if signs_with(rule, sizes) > MAX_SIGNS:
            raise TooLong(index)
    return (kinds, letters, tuple([replaced(rule, word, other) for rule in rules]))
