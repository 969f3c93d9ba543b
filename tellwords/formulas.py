"""Vocabularies and formulas."""

from tellwords.bounds import MAX_SIGNS

KINDS = ("A", "B", "C")
LETTERS = ("p", "q")


def words_of(kinds, letters):
    """The ascending tuple of the words of a vocabulary."""
    first_kinds = [word for at, word in enumerate(KINDS) if at < kinds]
    first_letters = [word for at, word in enumerate(LETTERS) if at < letters]
    return (*first_kinds, *first_letters)


def formula_error(kinds, letters, value):
    """What is wrong with value as a formula of a vocabulary; None if nothing is."""
    words = words_of(kinds, letters)
    waiting = [value]
    counted = 0
    while waiting:
        part = waiting.pop()
        counted += 1
        if is_node(part):
            waiting.extend(part[1:])
        elif part not in words:
            return "formula"
    return "signs" if counted > MAX_SIGNS else None


def is_node(value):
    """Whether value is a tuple as formulas are, whatever its parts may be."""
    if not isinstance(value, tuple) or len(value) == 0:
        return False
    if value[0] in ("and", "or"):
        return True
    return value[0] in ("not", "some", "all") and len(value) == 2


def signs(formula):
    """The number of words and tuples that stand in a formula."""
    return len(all_parts(formula))


def is_sentence(formula):
    """Whether each kind in a formula stands within a "some" or an "all"."""
    waiting = [formula]
    while waiting:
        part = waiting.pop()
        if isinstance(part, str):
            if part in KINDS:
                return False
        elif part[0] not in ("some", "all"):
            waiting.extend(part[1:])
    return True


def words_in(formula):
    """The ascending tuple of the words that stand in a formula."""
    return tuple(sorted(set([part for part in all_parts(formula) if isinstance(part, str)])))


def replaced(formula, word, other):
    """A formula with another one in each place where word stands."""
    return with_all_replaced(formula, {word: other})


def with_all_replaced(formula, others):
    """A formula with other ones in the places of some words, told by a dict, all at once."""
    return folded(
        formula,
        lambda standing: others.get(standing, standing),
        lambda head, parts: (head, *parts),
    )


def all_parts(formula):
    """The formula, its parts, their parts and so on, each one ahead of its own."""
    waiting = [formula]
    found = []
    while waiting:
        part = waiting.pop()
        found.append(part)
        if not isinstance(part, str):
            waiting.extend(part[1:])
    return found


def folded(formula, of_word, of_parts):
    """What becomes of a formula, worked out from the innermost parts outwards.

    of_word(word) tells it of a word, of_parts(head, made) of a tuple, by its
    first item and by the list of what became of its parts. Each part is worked
    out once, without recursion: formulas may be too deep for that.
    """
    made = []
    for part in all_parts(formula)[::-1]:
        if isinstance(part, str):
            made.append(of_word(part))
        else:
            start = len(made) - len(part) + 1
            of_its_parts = made[start:]
            del made[start:]
            made.append(of_parts(part[0], of_its_parts))
    return made[0]
