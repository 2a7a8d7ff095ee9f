"""Whole numbers as bytes: digits to the base 128, and those below 0 folded in among the others."""

BASE = 128


def number_bytes(number):
    # The last digit is written first, and alone says by its byte that no other one follows.
    out = [number % BASE]
    rest = number // BASE
    while rest > 0:
        out.append(BASE + rest % BASE)
        rest = rest // BASE
    return list(reversed(out))


def folded(number):
    if number < 0:
        return -2 * number - 1
    return 2 * number


def unfolded(number):
    if number % 2 == 1:
        return -(number // 2) - 1
    return number // 2
