"""The limits of the program."""

LONGEST = 20
CLASSES = 8
BOTTOM = 24
OFFSET = 1000
FROM = 10 ** 30
# 10 ** 150: an exponent that is written out stays below 65.
SIZE = 10 ** 50 * 10 ** 50 * 10 ** 50
MODULUS = 5040
