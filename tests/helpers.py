"""What several tests use: a plain reference, samples, and a limit of time."""

import contextlib
import itertools
import random
import signal

KINDS = ("A", "B", "C")
LETTERS = ("p", "q")

# Values that are neither formulas nor worlds of any vocabulary.
ODD_VALUES = (
    None, True, False, 0, 1, -1, 10 ** 39, "", "a", "D", "r", "AB", "and", "not", "A ", "x" * 4000,
    "line\nline", b"A", (), [], {}, ["A"], {"A": "A"}, ("A",), ("A", "B"), (("A",),), ("p",),
    (None,), (True,), (1, 2), ((), ()), ((), [()]), ([], ((),)), {0: ((),)}, ["and"],
    ["not", "A"], ("not",), ("not", "A", "A"), ("some",), ("some", "A", "A"), ("all",),
    ("all", "A", "A"), ("not", True), ("and", ["A"]), ("and", ("A",)), ("or", None), ("or", ()),
    ("nand", "A"), ("And", "A"), (("and",), "A"), (["and"], "A"), (True, "A"), ("A", "and", "A"),
    ("and", "A", {}), ("some", ["not", "A"]), ("all", ("not", ("A",))), ("and", 1), ("", "A"),
)


def things_of(world, formula):
    """The set of the indexes of which a formula holds, said as the document says it."""
    yes, things = world
    everything = set(range(len(things)))
    if formula in LETTERS:
        return everything if formula in yes else set()
    if formula in KINDS:
        return {at for at in everything if formula in things[at]}
    head, *parts = formula
    held = [things_of(world, part) for part in parts]
    if head == "not":
        return everything - held[0]
    if head == "and":
        return {at for at in everything if all(at in each for each in held)}
    if head == "or":
        return {at for at in everything if any(at in each for each in held)}
    if head == "some":
        return everything if held[0] else set()
    return everything if held[0] == everything else set()


def sorts_of(kinds):
    """All sorts of a vocabulary."""
    words = KINDS[:kinds]
    return [sort for many in range(kinds + 1) for sort in itertools.combinations(words, many)]


def some_world(rng, kinds, letters, most=6):
    """A world of a vocabulary, drawn by rng."""
    yes = tuple(word for word in LETTERS[:letters] if rng.random() < 0.5)
    sorts = sorts_of(kinds)
    return (yes, tuple(rng.choice(sorts) for _ in range(rng.randint(1, most))))


def some_formula(rng, words, many):
    """A formula over the words with many signs, drawn by rng."""
    if many == 1:
        return rng.choice([*words, ("and",), ("or",)])
    head = rng.choice(["not", "some", "all", "and", "or", "and", "or"])
    if head in ("not", "some", "all") or many == 2:
        return (head, some_formula(rng, words, many - 1))
    parts = []
    left = many - 1
    while left > 0:
        size = rng.randint(1, left)
        parts.append(some_formula(rng, words, size))
        left -= size
    return (head, *parts)


def some_sentence(rng, words, many):
    """A sentence over the words with many signs, from two on, drawn by rng."""
    return (rng.choice(["some", "all"]), some_formula(rng, words, many - 1))


def drawn(seed):
    """The same draws for the same seed, on each run."""
    return random.Random(seed)


def deep(heads, word):
    """The word within one tuple for each of the heads, the first one outermost."""
    formula = word
    for head in reversed(heads):
        formula = (head, formula)
    return formula


class TookTooLong(Exception):
    """A call that the document wants to be quick was not."""


@contextlib.contextmanager
def soon(seconds=5):
    """Fails what takes longer than so many seconds instead of waiting for its end."""

    def stop(_number, _frame):
        raise TookTooLong(seconds)

    before = signal.signal(signal.SIGALRM, stop)
    signal.setitimer(signal.ITIMER_REAL, seconds)
    try:
        yield
    finally:
        signal.setitimer(signal.ITIMER_REAL, 0)
        signal.signal(signal.SIGALRM, before)
