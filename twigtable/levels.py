"""The mixed number and the level of a key."""

MODULUS = 2147483647
TOP_LEVEL = 6


def mixed_first(key):
    if not isinstance(key, str):
        return (key * 48271 + 11) % MODULUS
    mix = 7
    for sign in key:
        mix = (mix * 131 + ord(sign)) % MODULUS
    return mix


def mixed(key):
    mix = mixed_first(key)
    return mix ^ (mix >> 15)


def level_of(key):
    rest = mixed(key)
    level = 0
    while level < TOP_LEVEL and rest % 4 == 0:
        rest = rest >> 2
        level = level + 1
    return level
