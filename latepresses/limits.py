"""Numbers that several files share: where the cells of a world are, and what things can be."""

SLOTS = 16
MARKS = 16
MET = 16
SEED = 32
MARK = 33
BUCKET = 49

MOST_SEED = 65536
MOST_SET = 999
MOST_WAY = 7
MOST_PRESS = 63
NO_HOUSE = -1
ON_THE_FLOOR = -1
IN_THE_AIR = -2
