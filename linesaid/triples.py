"""Names, texts of one to eight small letters, and triples, tuples of three unlike names in order."""

LETTERS = "abcdefghijklmnopqrstuvwxyz"
MOST_LETTERS = 8


def is_name(thing):
    if not isinstance(thing, str):
        return False
    if len(thing) < 1 or len(thing) > MOST_LETTERS:
        return False
    return all([sign in LETTERS for sign in thing])


def triple(A, B, C):
    return tuple(sorted([A, B, C]))


def turn(A, B, C):
    # A change of two places changes the number of pairs that are out of order by an odd number.
    out_of_order = [A > B, A > C, B > C].count(True)
    return 1 if out_of_order % 2 == 0 else -1


def all_triples(names):
    ordered = sorted(names)
    found = []
    for first in range(len(ordered)):
        for second in range(first + 1, len(ordered)):
            found.extend([(ordered[first], ordered[second], third) for third in ordered[second + 1:]])
    return found
