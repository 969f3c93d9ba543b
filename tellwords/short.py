"""The fewest signs by which a word is written out, if they are few."""

from tellwords.bounds import MAX_SHORT
from tellwords.formulas import KINDS, signs
from tellwords.space import Space
from tellwords.telling import tells


def fewest_signs(book, word, tellers):
    """The least number of signs of a writing-out, if that is at most MAX_SHORT; else None."""
    formula = short(book, word, tellers)
    return None if formula is None else signs(formula)


def short(book, word, tellers):
    """A writing-out with the fewest signs, if they are at most MAX_SHORT; else None."""
    space = Space(book)
    if not tells(space, word, tellers):
        return None
    search = Search(space, tellers)
    marks = space.marks_of_word(word)
    for _ in range(MAX_SHORT):
        search.grow()
        if (marks, True) in search.formulas:
            return search.formulas[(marks, True)]
        if word in KINDS and (marks, False) in search.formulas:
            return search.formulas[(marks, False)]
    return None


class Search:
    """The unlike formulas in some words, those with fewer signs first.

    Formulas are alike here if they hold of the same in the worlds of the book
    and are both sentences or both none: then one may stand for the other in
    any formula. So each is known by its key, a pair of its marks and of whether
    it is a sentence, and only the first one found for a key is kept.
    """

    def __init__(self, space, words):
        self.space = space
        self.words = words
        self.formulas = {}
        # By number of signs, the keys that no formula with fewer signs has.
        self.sized = [[]]
        # By "and" and "or" and by number of signs, pairs of a key and of parts that
        # have this key when they are so joined. No parts at all have no signs.
        self.rows = {
            head: [[((space.marks_of_parts(head, []), True), ())]] for head in ("and", "or")
        }

    def grow(self):
        """Finds the formulas with one sign more than those found so far."""
        many = len(self.sized)
        self.sized.append([])
        if many == 1:
            for word in self.words:
                self.keep((self.space.marks_of_word(word), word not in KINDS), word)
        for marks, closed in list(self.sized[many - 1]):
            for head in ("not", "some", "all"):
                key = (self.space.marks_of_parts(head, [marks]), closed or head != "not")
                self.keep(key, (head, self.formulas[(marks, closed)]))
        for head in ("and", "or"):
            for key, parts in self.rows[head][many - 1]:
                self.keep(key, (head, *parts))
        for head in ("and", "or"):
            self.rows[head].append(self.rows_with(head, many))

    def keep(self, key, formula):
        """Keeps a formula with the number of signs that is looked at, if its key is new."""
        if key not in self.formulas:
            self.formulas[key] = formula
            self.sized[-1].append(key)

    def rows_with(self, head, many):
        """The keys and parts with so many signs, joined by head, whose keys are new."""
        known = {key: True for rows in self.rows[head] for key, _ in rows}
        found = []
        for size in range(1, many + 1):
            for marks, closed in self.sized[size]:
                for (others, others_closed), parts in self.rows[head][many - size]:
                    key = (self.space.marks_of_parts(head, [marks, others]), closed and others_closed)
                    if key not in known:
                        known[key] = True
                        found.append((key, (*parts, self.formulas[(marks, closed)])))
        return found
