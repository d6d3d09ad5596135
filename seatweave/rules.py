"""Rules of rounding, told by the marks at which one number gives way to the next.

A rule is one of Down(), Half() and Between(p, q). Its mark(n) is the n-th mark,
n from 1 on; its fits(share, n) tells whether a ratio may be rounded to n, n from 0 on.
"""

from seatweave.errors import BadRule
from seatweave.ratios import below, ratio

GREATEST_Q = 1000


def is_whole_number(value):
    # Python counts True and False among its whole numbers; here they are none.
    return isinstance(value, int) and not isinstance(value, bool)


# Only the kinds beneath this one are made: each hands on its own first mark.
class Rule:
    def __init__(self, whole):
        self.whole = whole

    def mark(self, n):
        return ratio(self.whole[0] + (n - 1) * self.whole[1], self.whole[1])

    def fits(self, share, n):
        # There is no mark to be reached for 0: no share is too small for it.
        if n > 0 and below(share, self.mark(n)):
            return False
        return not below(self.mark(n + 1), share)


class Down(Rule):
    def __init__(self):
        Rule.__init__(self, (1, 1))


class Half(Rule):
    def __init__(self):
        Rule.__init__(self, (1, 2))


class Between(Rule):
    def __init__(self, p, q):
        if not is_whole_number(p) or not is_whole_number(q):
            raise BadRule("p and q must be whole numbers")
        if not 0 < p <= q <= GREATEST_Q:
            raise BadRule(f"p must be above 0, p at most q, and q at most {GREATEST_Q}")
        Rule.__init__(self, ratio(p, q))
