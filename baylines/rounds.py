"""Many rounds: a row that is sent through a line again and again."""

from baylines.lines import empty
from baylines.running import run


def many_rounds(n, line, row, times):
    """Return (standing behind times rounds, what comes out in the last one, begin)."""
    standing = empty(line)
    shown = (standing, ())
    begin = 0
    while True:
        behind, out = run(line, standing, row)
        if begin < times:
            shown = (behind, out)
        # All rounds that follow are like this one: however many they are, they are told.
        if behind == standing:
            return (shown[0], shown[1], begin)
        standing = behind
        begin += 1
