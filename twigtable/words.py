"""Keys, plain values, clashes and words: what each of them is, and their order."""

MOST_SIGNS = 40
MOST_LETTERS = 12
# The sign is told by its number, for it may not stand in a text of the program.
PERCENT = 37


def is_whole(thing):
    return isinstance(thing, int) and not isinstance(thing, bool)


def is_number(thing):
    return is_whole(thing) and -10 ** 30 < thing < 10 ** 30


def is_sign(one):
    return " " <= one <= "~" and ord(one) != PERCENT


def is_text(thing, least):
    # The length is asked first, so that a long text is not walked.
    if not isinstance(thing, str) or not least <= len(thing) <= MOST_SIGNS:
        return False
    return all([is_sign(one) for one in thing])


def is_key(thing):
    return is_number(thing) or is_text(thing, 1)


def is_plain(thing):
    return thing is None or is_number(thing) or is_text(thing, 0)


def is_clash(thing):
    if not isinstance(thing, tuple) or len(thing) != 2:
        return False
    return is_plain(thing[0]) and are_nows(thing[1])


def are_nows(thing):
    if not isinstance(thing, tuple) or len(thing) < 2:
        return False
    # Only plain values have an order, so the order is asked of nothing else.
    return all([is_plain(now) for now in thing]) and is_rising(thing)


def is_value(thing):
    return is_plain(thing) or is_clash(thing)


def is_word(thing):
    if not isinstance(thing, str) or not 1 <= len(thing) <= MOST_LETTERS:
        return False
    return all(["a" <= letter <= "z" for letter in thing])


def rank_of(value):
    # Numbers and texts can't be compared, so the kind decides ahead of the value.
    if value is None:
        return (0, 0)
    if isinstance(value, str):
        return (2, value)
    return (1, value)


def before(one, other):
    return rank_of(one) < rank_of(other)


def is_rising(values):
    return all([before(values[at - 1], values[at]) for at in range(1, len(values))])


def in_order(values):
    ordered = []
    for value in sorted(values, key=rank_of):
        if not ordered or before(ordered[-1], value):
            ordered.append(value)
    return ordered


def place_of(keys, key):
    low = 0
    high = len(keys)
    while low < high:
        middle = (low + high) // 2
        if before(keys[middle], key):
            low = middle + 1
        else:
            high = middle
    return low


def base_of(value):
    if isinstance(value, tuple):
        return value[0]
    return value


def sides_of(value):
    if isinstance(value, tuple):
        return list(value[1])
    return [value]


def clash_of(before_it, values):
    return (before_it, tuple(in_order(values)))
