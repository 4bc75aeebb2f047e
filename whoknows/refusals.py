"""What a refused call answers, alone."""

WRONG = -1
TOO_DEEP = -2
NO_ROOM = -3
NO_STATE = -4
LINKED = -5
NOT_LINKED = -6
NONE_IS_SO = -7
COMMON_TOLD = -8
TOO_LARGE = -9
NOT_SO = -10
NO_CHAIN = -11
NOTHING_TO_UNDO = -12
