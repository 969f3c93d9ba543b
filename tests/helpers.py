"""What several tests use: a plain reference, samples, and a limit of time."""

import contextlib
import itertools
import random
import signal

KINDS = ("A", "B", "C")
LETTERS = ("p", "q")

# Values that are neither formulas nor worlds of any vocabulary.
ODD_VALUES = (
    None, True, False, 0, 1, -1, 10 ** 39, "", "a", "D", "r", "AB", "and", "not", "A ", "x" * 4000,
    "line\nline", b"A", (), [], {}, ["A"], {"A": "A"}, ("A",), ("A", "B"), (("A",),), ("p",),
    (None,), (True,), (1, 2), ((), ()), ((), [()]), ([], ((),)), {0: ((),)}, ["and"],
    ["not", "A"], ("not",), ("not", "A", "A"), ("some",), ("some", "A", "A"), ("all",),
    ("all", "A", "A"), ("not", True), ("and", ["A"]), ("and", ("A",)), ("or", None), ("or", ()),
    ("nand", "A"), ("And", "A"), (("and",), "A"), (["and"], "A"), (True, "A"), ("A", "and", "A"),
    ("and", "A", {}), ("some", ["not", "A"]), ("all", ("not", ("A",))), ("and", 1), ("", "A"),
)


def things_of(world, formula):
    """The set of the indexes of which a formula holds, said as the document says it."""
    yes, things = world
    everything = set(range(len(things)))
    if formula in LETTERS:
        return everything if formula in yes else set()
    if formula in KINDS:
        return {at for at in everything if formula in things[at]}
    head, *parts = formula
    held = [things_of(world, part) for part in parts]
    if head == "not":
        return everything - held[0]
    if head == "and":
        return {at for at in everything if all(at in each for each in held)}
    if head == "or":
        return {at for at in everything if any(at in each for each in held)}
    if head == "some":
        return everything if held[0] else set()
    return everything if held[0] == everything else set()


def sorts_of(kinds):
    """All sorts of a vocabulary."""
    words = KINDS[:kinds]
    return [sort for many in range(kinds + 1) for sort in itertools.combinations(words, many)]


def some_world(rng, kinds, letters, most=6):
    """A world of a vocabulary, drawn by rng."""
    yes = tuple(word for word in LETTERS[:letters] if rng.random() < 0.5)
    sorts = sorts_of(kinds)
    return (yes, tuple(rng.choice(sorts) for _ in range(rng.randint(1, most))))


def some_formula(rng, words, many):
    """A formula over the words with many signs, drawn by rng."""
    if many == 1:
        return rng.choice([*words, ("and",), ("or",)])
    head = rng.choice(["not", "some", "all", "and", "or", "and", "or"])
    if head in ("not", "some", "all") or many == 2:
        return (head, some_formula(rng, words, many - 1))
    parts = []
    left = many - 1
    while left > 0:
        size = rng.randint(1, left)
        parts.append(some_formula(rng, words, size))
        left -= size
    return (head, *parts)


def some_sentence(rng, words, many):
    """A sentence over the words with many signs, from two on, drawn by rng."""
    return (rng.choice(["some", "all"]), some_formula(rng, words, many - 1))


def drawn(seed):
    """The same draws for the same seed, on each run."""
    return random.Random(seed)


def iff(word, formula):
    """The rule that word is where the formula holds; that of a letter needs a sentence."""
    both = ("or", ("and", word, formula), ("and", ("not", word), ("not", formula)))
    return both if word in LETTERS else ("all", both)


def vocabularies():
    """The numbers of kinds and letters of all vocabularies."""
    return [(kinds, letters) for kinds in range(4) for letters in range(3) if kinds + letters > 0]


def words_in_order(kinds, letters):
    """The words of a vocabulary."""
    return KINDS[:kinds] + LETTERS[:letters]


def subsets(items):
    """All tuples of some of the items, in the order of the items."""
    return [lot for many in range(len(items) + 1) for lot in itertools.combinations(items, many)]


def some_book(rng, kinds, letters, most=6):
    """A book of a vocabulary, drawn by rng: a definition of a word is likely among its rules."""
    words = words_in_order(kinds, letters)
    rules = []
    for _ in range(rng.randint(0, most)):
        word = rng.choice(words)
        others = [other for other in words if other != word]
        if rng.random() < 0.4:
            rules.append(some_sentence(rng, words, rng.randint(2, 40)))
        elif word in LETTERS:
            rules.append(iff(word, some_sentence(rng, others, rng.randint(2, 14))))
        else:
            rules.append(iff(word, some_formula(rng, others, rng.randint(1, 14))))
    return (kinds, letters, tuple(rules))


def layered_plan(rng, words, most):
    """A plan without a ring and with formulas of at most so many signs, drawn by rng.

    Each word hangs only on words that stand behind it in a shuffle.
    """
    order = rng.sample(words, len(words))
    plan = []
    for at, word in enumerate(order[:rng.randint(1, len(words))]):
        made = some_sentence if word in LETTERS else some_formula
        plan.append((word, made(rng, order[at + 1:], rng.randint(2, most))))
    return tuple(rng.sample(plan, len(plan)))


def all_frames(kinds, letters):
    """All frames of a vocabulary, in no order that matters."""
    sorts = sorted(sorts_of(kinds))
    return [(yes, stock) for yes in subsets(LETTERS[:letters]) for stock in subsets(sorts) if stock]


def all_worlds(kinds, letters, most):
    """All worlds of a vocabulary with at most so many things."""
    sorts = sorts_of(kinds)
    return [(yes, things) for yes in subsets(LETTERS[:letters]) for many in range(1, most + 1)
            for things in itertools.product(sorts, repeat=many)]


def keeps_by_things(book, world):
    """Whether a world of the book's vocabulary keeps the book, said as the document says it."""
    return all(things_of(world, rule) for rule in book[2])


def frames_by_things(book):
    """The set of the frames of a book: a frame is itself a world, with a thing for each sort."""
    return {frame for frame in all_frames(book[0], book[1]) if keeps_by_things(book, frame)}


def words_left(words, tellers):
    """Those of the words that are tellers."""
    return tuple(word for word in words if word in tellers)


def seen_frame(frame, tellers):
    """What is seen of a frame by tellers."""
    yes, stock = frame
    return (words_left(yes, tellers), tuple(sorted({words_left(sort, tellers) for sort in stock})))


def told_by_frames(frames, word, tellers):
    """Whether word is told in worlds of these frames, of any number of things.

    Worlds of two frames of which the same is seen can be made to look alike,
    with any two sorts that are seen alike at one thing.
    """
    marked = {}
    for yes, stock in frames:
        look = seen_frame((yes, stock), tellers)
        for sort in stock:
            key = look if word in LETTERS else (look, words_left(sort, tellers))
            marked.setdefault(key, set()).add(word in yes or word in sort)
    return all(len(found) == 1 for found in marked.values())


def told_by_worlds(worlds, word, tellers):
    """Whether word is the same in any two of these worlds that look alike by tellers."""
    marked = {}
    for yes, things in worlds:
        look = (words_left(yes, tellers), tuple(words_left(thing, tellers) for thing in things))
        same = word in yes if word in LETTERS else tuple(word in thing for thing in things)
        if marked.setdefault(look, same) != same:
            return False
    return True


def deep(heads, word):
    """The word within one tuple for each of the heads, the first one outermost."""
    formula = word
    for head in reversed(heads):
        formula = (head, formula)
    return formula


class TookTooLong(Exception):
    """A call that the document wants to be quick was not."""


@contextlib.contextmanager
def soon(seconds=5):
    """Fails what takes longer than so many seconds instead of waiting for its end."""

    def stop(_number, _frame):
        raise TookTooLong(seconds)

    before = signal.signal(signal.SIGALRM, stop)
    signal.setitimer(signal.ITIMER_REAL, seconds)
    try:
        yield
    finally:
        signal.setitimer(signal.ITIMER_REAL, 0)
        signal.signal(signal.SIGALRM, before)
