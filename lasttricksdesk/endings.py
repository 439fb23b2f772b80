"""The calls on one ending, handed in as one list and answered as one list."""

from lasttricksdesk.held import Ending

DEAL = 0
PLAY = 1
BACK = 2
TURN = 3
VALUE = 4
CARDS = 5
LINE = 6
ACCOUNT = 7
PAST = 8
TABLE = 9
ALIKE = 10
SQUEEZED = 11
CAN = 12
TOLD = 13


class Reader:
    """Reads the numbers handed in one behind another, and changes none."""

    def __init__(self, numbers):
        self.numbers = numbers
        self.place = 0

    def at_end(self):
        """Whether all was read."""
        return self.place == len(self.numbers)

    def number(self):
        """The number that comes next."""
        number = self.numbers[self.place]
        self.place += 1
        return number

    def row(self):
        """The row that comes next, with how many numbers it has ahead of it."""
        size = self.number()
        start = self.place
        self.place += size
        return self.numbers[start:self.place]

    def rows(self, count):
        """So many rows that come next."""
        rows = []
        for step in range(count):
            rows.append(self.row())
        return rows


def deal(ending, reader):
    """Read and answer what stands behind the number of a deal."""
    trump = reader.number()
    leader = reader.number()
    return ending.deal(trump, leader, reader.rows(4))


def can(ending, reader):
    """Read and answer what stands behind the number of a can."""
    side = reader.number()
    return ending.can(side, reader.number())


def answer_next(ending, reader):
    """Read the call that comes next, and answer it."""
    call = reader.number()
    if call == DEAL:
        return deal(ending, reader)
    if call == PLAY:
        return ending.play(reader.number())
    if call == BACK:
        return ending.back()
    if call == TURN:
        return ending.turn()
    if call == VALUE:
        return ending.value()
    if call == CARDS:
        return ending.cards()
    if call == LINE:
        return ending.line()
    if call == ACCOUNT:
        return ending.account(reader.row())
    if call == PAST:
        return ending.past()
    if call == TABLE:
        return ending.table()
    if call == ALIKE:
        return ending.alike(reader.number())
    if call == SQUEEZED:
        return ending.squeezed()
    if call == CAN:
        return can(ending, reader)
    if call == TOLD:
        return ending.told()
    raise ValueError(f"no such call: {call}")


def answers(calls):
    """The answers of all calls, each with how many numbers it has ahead of it."""
    ending = Ending()
    reader = Reader(calls)
    told = []
    while not reader.at_end():
        answer = answer_next(ending, reader)
        told.append(len(answer))
        told.extend(answer)
    return told
