"""The limits of webs, amounts and closings."""

MOST_ROADS = 8
MOST_COST = 1000000
MOST_AMOUNT = 1000000
MOST_PART = 1000
MOST_CLOSED = 3
