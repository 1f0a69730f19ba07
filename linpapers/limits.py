"""The limits of what is passed to the program, and of what it does."""

# Of a system.
ROWS = 8
UNKNOWNS = 4

# Of a text: the digits above and below, and the characters of an unknown.
DIGITS = 6
LETTERS = 8

# Of a formula: the parts of an `and` or `or`, all formulas in it, and how many
# of these stand one within the other.
PARTS = 8
FORMULAS = 40
DEPTH = 12

# Of a search for a point: the lists, or the boxes, that are looked at.
STEPS = 300

# Of a box: its unknowns, and the greatest integer on either side of 0.
BOX = 3
SIDE = 20

# Of a bench.
FACTS = 12
LEVELS = 8
