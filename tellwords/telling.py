"""Whether some words tell another one, in all worlds of a book."""

from tellwords.books import ALWAYS, keeps
from tellwords.formulas import KINDS, formula_error, is_sentence, words_in
from tellwords.space import Sight, Space
from tellwords.worlds import holds_of, seen

# A formula that holds of nothing.
NEVER = ("or",)


def told(book, word, tellers):
    """Whether word is the same in any two worlds of the book that look alike by tellers."""
    return tells(Space(book), word, tellers)


def tells(space, word, tellers):
    """Whether word is told by tellers in the worlds of a space's book."""
    return clash(space, word, Sight(space, tellers)) is None


def clash(space, word, sight):
    """What is seen alike of a thing with word and of one without it; None if nothing is.

    It is a pair of what is seen of the frames of both, and of an integer with
    the bits of the sorts that are seen of both.

    Frames of which the same is seen have worlds that look alike, with any two
    of their sorts that are seen alike at the same thing.
    """
    mixes = space.mixes_with(word)
    having = {}
    lacking = {}
    for at, mix in space.frames_kept():
        look = sight.of_frame((at, mix))
        mix_with = mix & mixes[at]
        having[look] = having.get(look, 0) | sight.mix_seen[mix_with]
        lacking[look] = lacking.get(look, 0) | sight.mix_seen[mix - mix_with]
        if having[look] & lacking[look] != 0:
            return (look, having[look] & lacking[look])
    return None


def written(book, word, tellers):
    """A formula in words of tellers that holds where word does; None if there is none."""
    space = Space(book)
    sight = Sight(space, tellers)
    if clash(space, word, sight) is not None:
        return None
    features = features_of(word, tellers)
    marks = [space.marks(feature) for feature in features]
    of_word = space.marks_of_word(word)
    points = []
    for at, place in places_seen(space, sight, word in KINDS):
        bits = [((held[at] >> place) & 1) << turn for turn, held in enumerate(marks)]
        points.append((sum(bits), (of_word[at] >> place) & 1 == 1))
    return decided(features, points)


def features_of(word, tellers):
    """The formulas in words of tellers by which things or worlds are told apart, short ones first.

    Things are told apart by these if word is a kind, else worlds are. No more
    can be told apart than by them: they tell which sorts are seen.
    """
    of_thing = [teller for teller in tellers if word in KINDS or teller not in KINDS]
    cubes = [()]
    for kind in [teller for teller in tellers if teller in KINDS]:
        cubes = [*cubes, *[(*cube, part) for cube in cubes for part in (kind, ("not", kind))]]
    of_world = [("some", all_parts_hold(cube)) for cube in sorted(cubes, key=len) if len(cube) > 0]
    return [*of_thing, *of_world]


def all_parts_hold(parts):
    """The formula that holds where all of the parts do, which are one or more."""
    return parts[0] if len(parts) == 1 else ("and", *parts)


def places_seen(space, sight, by_sort):
    """One place in marks for each frame that is seen, or for each sort in each such frame.

    A place is the index of a yes and the index of a bit.
    """
    found = {}
    for at, mix in space.frames_kept():
        for sort_at in range(space.width):
            if (mix >> sort_at) & 1 == 1:
                look = (sight.of_frame((at, mix)), sight.sort_seen[sort_at] if by_sort else 0)
                found[look] = (at, mix * space.width + sort_at)
    return list(found.values())


def decided(features, points):
    """A formula made of features that holds of those points of which it is to hold.

    A point is an integer with a bit for each feature that holds of it, and
    whether the formula is to hold of it. Points with the same bits agree in that.
    """
    if not any([held for _, held in points]):
        return NEVER
    if all([held for _, held in points]):
        return ALWAYS
    turn = best_split(len(features), points)
    inside = [point for point in points if (point[0] >> turn) & 1 == 1]
    outside = [point for point in points if (point[0] >> turn) & 1 == 0]
    return chosen(features[turn], decided(features, inside), decided(features, outside))


def best_split(many, points):
    """The index of the feature that leaves the fewest points open, the first one of the best."""
    best = None
    fewest = 0
    for turn in range(many):
        inside = [held for bits, held in points if (bits >> turn) & 1 == 1]
        outside = [held for bits, held in points if (bits >> turn) & 1 == 0]
        if len(inside) > 0 and len(outside) > 0:
            left = many_open(inside) + many_open(outside)
            if best is None or left < fewest:
                best = turn
                fewest = left
    return best


def many_open(marked):
    """How many points are still to be told apart: none if all of them are marked alike."""
    return 0 if all(marked) or not any(marked) else len(marked)


def chosen(feature, inside, outside):
    """The formula that is as inside where feature holds, and as outside where it does not."""
    if inside == ALWAYS:
        return feature if outside == NEVER else ("or", feature, outside)
    if inside == NEVER:
        return ("not", feature) if outside == ALWAYS else ("and", ("not", feature), outside)
    if outside == ALWAYS:
        return ("or", ("not", feature), inside)
    if outside == NEVER:
        return ("and", feature, inside)
    return ("or", ("and", feature, inside), ("and", ("not", feature), outside))


def is_written(book, word, tellers, value):
    """Whether value is a formula in words of tellers that holds where word does."""
    kinds, letters, _ = book
    if formula_error(kinds, letters, value) == "formula":
        return False
    if not all([standing in tellers for standing in words_in(value)]):
        return False
    if word not in KINDS and not is_sentence(value):
        return False
    space = Space(book)
    return space.marks(value) == space.marks_of_word(word)


def pair(book, word, tellers):
    """Two worlds of the book that look alike by tellers and are unlike in word, or None."""
    space = Space(book)
    sight = Sight(space, tellers)
    found = clash(space, word, sight)
    if found is None:
        return None
    mixes = space.mixes_with(word)
    inverse = [(1 << space.width) - 1 - mix for mix in mixes]
    one = frame_with(space, sight, found, mixes)
    other = frame_with(space, sight, found, inverse)
    both = things_alike(
        sight,
        sorts_first(space, one[1], mixes[one[0]]),
        sorts_first(space, other[1], inverse[other[0]]),
    )
    return (
        (space.yeses[one[0]], tuple([space.sorts[at] for at, _ in both])),
        (space.yeses[other[0]], tuple([space.sorts[at] for _, at in both])),
    )


def frame_with(space, sight, found, mixes):
    """The first frame that is seen as clash found, with a sort of mixes that is seen as it found."""
    look, sorts_clashing = found
    lowest = sorts_clashing & -sorts_clashing
    fitting = [
        (at, mix)
        for at, mix in space.frames_kept()
        if sight.of_frame((at, mix)) == look and sight.mix_seen[mix & mixes[at]] & lowest != 0
    ]
    return fitting[0]


def sorts_first(space, mix, first):
    """The indexes of the sorts of a mix, those ahead that are also in the mix first."""
    present = [at for at in range(space.width) if (mix >> at) & 1 == 1]
    ahead = [at for at in present if (first >> at) & 1 == 1]
    return [*ahead, *[at for at in present if (first >> at) & 1 == 0]]


def things_alike(sight, ones, others):
    """Pairs of indexes of sorts that are seen alike, with all of ones and all of others.

    The first ones of both that are seen alike are together in a pair.
    """
    both = []
    for look in sorted(set([sight.sort_seen[at] for at in ones])):
        left = [at for at in ones if sight.sort_seen[at] == look]
        right = [at for at in others if sight.sort_seen[at] == look]
        for turn in range(max(len(left), len(right))):
            both.append((left[min(turn, len(left) - 1)], right[min(turn, len(right) - 1)]))
    return both


def is_pair(book, word, tellers, value):
    """Whether value is two worlds of the book that look alike and are unlike in word."""
    if not isinstance(value, tuple) or len(value) != 2:
        return False
    one, other = value
    if not keeps(book, one) or not keeps(book, other):
        return False
    look_alike = seen(one, tellers) == seen(other, tellers)
    return look_alike and holds_of(one, word) != holds_of(other, word)
