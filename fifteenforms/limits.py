"""The bounds of the package, and the numbers that tell whether a form gives all."""

MOST_PLACES = 5
MOST_ENTRY = 1000
MOST_NUMBER = 1000
MOST_LOTS = 6
MOST_FORMS = 20
MOST_GROWN = 3

ALL = (1, 2, 3, 5, 6, 7, 10, 14, 15)
ODD = (1, 3, 5, 7, 11, 15, 33)
PRIMES = (2, 3, 5, 7, 11, 13, 17, 19, 23, 29, 31, 37, 41, 43, 47, 67, 73)
TRIANGLES = (1, 2, 4, 5, 8)
