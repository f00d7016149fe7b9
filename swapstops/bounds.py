"""The greatest numbers that the package works with."""

MAX_STOPS = 12
MAX_LED = 8
MAX_FEW = 4
MAX_RUN = 1000
MAX_LEGS = 500
MAX_TIMES = 10 ** 30
MAX_EDITS = 40
