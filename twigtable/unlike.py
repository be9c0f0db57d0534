"""Two trees held against one another without a look at what both have; changes moved onto a tree."""

from twigtable.changes import change_of
from twigtable.levels import TOP_LEVEL
from twigtable.words import in_order


def unlike(pages, one, other):
    ones = []
    others = []
    seen = []
    # A page that both trees have is of one level in both, and so is found while that level is gone through.
    for level in range(TOP_LEVEL, -1, -1):
        ones = ones + root_at(pages, one, level)
        others = others + root_at(pages, other, level)
        only_one = missing_from(others, ones)
        only_other = missing_from(ones, others)
        seen = seen + only_one + only_other
        ones = entries_of(pages, only_one)
        others = entries_of(pages, only_other)
    # What stood in leaves that only one of the trees has are rows, no heads.
    return (changes_between(ones, others), sorted(seen))


# The root as the one head of its level, where that is the level asked for.
def root_at(pages, root, level):
    if root is None:
        return []
    card = pages.card(root)
    return [(card[1], root)] if card[0] == level else []


# The numbers of those of the heads that are not among the others.
def missing_from(others, heads):
    there = {}
    for head in others:
        there[head[1]] = True
    return [head[1] for head in heads if head[1] not in there]


def entries_of(pages, numbers):
    entries = []
    for number in numbers:
        entries.extend(pages.page(number).entries)
    return entries


def changes_between(old_rows, new_rows):
    olds = dict(old_rows)
    news = dict(new_rows)
    changes = []
    for key in in_order(list(olds) + list(news)):
        # A leaf that only one of the trees has may hold rows that the other has, too.
        if olds.get(key) != news.get(key):
            changes.append(change_of(key, olds.get(key), news.get(key)))
    return changes


def moved(pages, root, changes):
    for change in changes:
        root = change.onto(pages, root)
    return root


def columns_unlike(one, other):
    put_in = [column for column in other[0] if column not in one[0]]
    dropped = [column for column in one[0] if column not in other[0]]
    return (put_in, dropped)
