"""Sets of options as whole numbers: the sum of the powers of two of their options."""


def has(some, k):
    # A shift by less than nothing would be an error; no set has such an option.
    return k >= 0 and (some >> k) & 1 == 1


def options_of(some):
    return [k for k in range(some.bit_length()) if has(some, k)]


def size_of(some):
    return len(options_of(some))


def with_option(some, k):
    return some | (1 << k)


def open_options(many, yes, no):
    return [k for k in range(many) if not has(yes | no, k)]
