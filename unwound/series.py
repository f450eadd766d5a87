"""Series far out: sums of coefficients of series that come to an end once they are multiplied by 1 - x ** length
for some lengths."""


def sum_far(first, lengths, n):
    """The sum of the coefficients up to that at x ** n; first has those up to where the series, multiplied by
    1 - x ** length for each of lengths, has come to an end.

    The sums are what it is then, divided by all of these and by 1 - x. From n one comes to half of n: both are
    multiplied so that in the divisors only even powers are left; then of what is divided the even powers, or the
    odd ones, are all that counts.
    """
    top = list(first)
    for length in lengths:
        top = _with_shifted(top, length, -1)[:len(top)]
    divisors, far = lengths + [1], n
    while far:
        for length in divisors:
            # (1 - x ** length) (1 + x ** length) has even powers alone.
            if length & 1:
                top = _with_shifted(top, length, 1)
        top = top[far & 1::2]
        divisors = [length if length & 1 else length // 2 for length in divisors]
        far //= 2
    return top[0]


def _with_shifted(row, length, times):
    """The coefficients row multiplied by 1 + times * x ** length."""
    ahead = row + [0] * length
    behind = [0] * length + row
    return [own + times * other for own, other in zip(ahead, behind)]
