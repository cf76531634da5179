"""Pages take the lines of a text one by one, as long as some right thing has a text that begins like this."""

from latepresses.forms import MOST_DEEP, MOST_TUPLES, measured
from latepresses.levels import LEAST_ROWS, MOST_KINDS, is_game, is_kind, is_level
from latepresses.limits import MARKS, MOST_SEED, MOST_SET, SLOTS
from latepresses.phrases import MOST_DIGITS, deed_in, integer_in, integers_in, rows_in
from latepresses.plain import is_between
from latepresses.rightness import are_met, right_buckets, stands_right, starts_stand_right
from latepresses.texts import INDENT

# What the lines of a world begin with, in order.
PARTS = ("slot", "met", "seed", "mark")
MOST_SUM_DIGITS = 19
SOME_ROW = "...."
# A start that does not stand right as this one is wrong, whatever its kind is.
SMALLEST = ("a", 1, 1, (), (0, 0, 0, 0), ())


class Block:
    """Deeds that stand together, and what their "when" asked and did first, if they are within one."""

    def __init__(self, asked):
        self.asked = asked
        self.firsts = None
        self.deeds = []


class ScriptPage:
    """The lines of a script."""

    def __init__(self):
        self._blocks = [Block(None)]
        self._size = 0

    def take(self, line):
        """Takes a line; returns False if no script has a text that goes on so."""
        within = len(self._blocks) - 1
        if within > 0 and line == INDENT * (within - 1) + "else":
            return self._turn()
        if within > 0 and line == INDENT * (within - 1) + "end":
            return self._close()
        ahead = INDENT * within
        deed = deed_in(line[len(ahead):]) if line.startswith(ahead) else None
        if deed is None:
            return False
        size, depth = measured((deed,))
        self._size += size
        if self._size > MOST_TUPLES or within + depth > MOST_DEEP:
            return False
        if deed[0] == "when":
            self._blocks.append(Block(deed[1]))
        else:
            self._blocks[-1].deeds.append(deed)
        return True

    def _turn(self):
        """Goes on with the other deeds of a "when", of which there is one at least."""
        block = self._blocks[-1]
        if block.firsts is not None or self._size == MOST_TUPLES:
            return False
        block.firsts = block.deeds
        block.deeds = []
        return True

    def _close(self):
        """Ends a "when"."""
        block = self._blocks[-1]
        if block.firsts is None:
            deed = ("when", block.asked, tuple(block.deeds), ())
        elif block.deeds == []:
            return False
        else:
            deed = ("when", block.asked, tuple(block.firsts), tuple(block.deeds))
        self._blocks.pop()
        self._blocks[-1].deeds.append(deed)
        return True

    def is_whole(self):
        """Returns True if the lines so far are the text of a script."""
        return len(self._blocks) == 1

    def told(self):
        """Returns the script."""
        return tuple(self._blocks[0].deeds)


class WorldPage:
    """The lines of a world of a right game."""

    def __init__(self, game):
        self._game = game
        self._slots = [None] * SLOTS
        self._mets = [()] * SLOTS
        self._marks = [0] * MARKS
        self._seed = None
        # The part of the world, and the place in it, that came last.
        self._newest = (0, -1)

    def take(self, line):
        """Takes a line; returns False if no world has a text that goes on so."""
        words = line.split(" ")
        name = words[0]
        place = 0 if name == "seed" else _place_in(words)
        numbers = integers_in(words[1:] if name == "seed" else words[2:])
        if name not in PARTS or place is None or numbers is None:
            return False
        ahead = self._newest
        self._newest = (PARTS.index(name), place)
        if self._newest <= ahead:
            return False
        if name == "slot":
            return self._take_thing(place, numbers)
        if name == "met":
            return self._take_met(place, numbers)
        return len(numbers) == 1 and self._take_number(name, place, numbers[0])

    def _take_thing(self, slot, numbers):
        """Puts the thing of some numbers into a slot; returns False if it does not stand right."""
        self._slots[slot] = numbers[:7] + (numbers[7:],)
        return stands_right(self._game, self._slots, slot)

    def _take_met(self, slot, numbers):
        """Puts slots into a met cell; returns False if the thing of this slot can not have met them."""
        self._mets[slot] = numbers
        return numbers != () and are_met(self._slots[slot], slot, numbers)

    def _take_number(self, name, mark, number):
        """Puts a number into the seed, or a mark behind it; returns False if it is not in range."""
        if name == "seed":
            self._seed = number
            return is_between(number, 0, MOST_SEED)
        self._marks[mark] = number
        return self._seed is not None and number != 0 and is_between(number, -MOST_SET, MOST_SET)

    def is_whole(self):
        """Returns True if the lines so far are the text of a world."""
        return self._seed is not None

    def told(self):
        """Returns the world."""
        row = (*self._slots, *self._mets, self._seed, *self._marks)
        return (*row, *right_buckets(self._game, row))


def _place_in(words):
    """Returns the place that stands ahead of a colon behind the first word, None if there is none."""
    if len(words) < 2 or not words[1].endswith(":"):
        return None
    place = integer_in(words[1][:-1], 2)
    return place if is_between(place, 0, SLOTS - 1) else None


class PaperPage:
    """The lines of a paper of a right game."""

    def __init__(self, game):
        self._page = WorldPage(game)
        self._rows = None
        self._marks = []

    def take(self, line):
        """Takes a line; returns False if no paper has a text that goes on so."""
        if self._rows is not None:
            return self._take_sum(line.split(" "))
        if not line.startswith("rows "):
            return self._page.take(line)
        self._rows = rows_in(line[5:], False)
        return self._rows is not None and self._page.is_whole()

    def _take_sum(self, words):
        """Takes the words of a line of a sum."""
        if len(words) != 3 or words[0] != "sum":
            return False
        tick = integer_in(words[1], MOST_DIGITS)
        least = self._marks[-1][0] + 1 if self._marks else 0
        told = integer_in(words[2], MOST_SUM_DIGITS)
        self._marks.append((tick, told))
        return told is not None and is_between(tick, least, len(self._rows))

    def is_whole(self):
        """Returns True if the lines so far are the text of a paper."""
        return self._rows is not None

    def told(self):
        """Returns the paper."""
        return (self._page.told(), self._rows, tuple(self._marks))


class GamePage:
    """The lines of a game."""

    def __init__(self):
        self._houses = None
        self._pull = None
        self._rows = []
        self._starts = []
        self._kinds = []
        # The script of the last kind, as long as it is read.
        self._script = None

    def take(self, line):
        """Takes a line; returns False if no game has a text that goes on so."""
        if self._script is not None:
            return self._take_in_kind(line)
        words = line.split(" ")
        if self._houses is None:
            return self._take_head(words)
        if line.startswith("|"):
            return self._take_row(line[1:])
        if words[0] == "start":
            return self._take_start(integers_in(words[1:]))
        return words[0] == "kind" and self._take_kind(words)

    def _take_head(self, words):
        """Takes the words of the first line."""
        if len(words) != 4 or words[0] != "houses" or words[2] != "pull":
            return False
        self._houses = integer_in(words[1], MOST_DIGITS)
        self._pull = integer_in(words[3], MOST_DIGITS)
        return self._begins_level((SOME_ROW,))

    def _take_row(self, signs):
        """Takes the signs of a row of the floor."""
        self._rows.append(signs)
        return self._starts == [] and self._kinds == [] and self._begins_level(tuple(self._rows))

    def _begins_level(self, rows):
        """Returns True if some level begins with these rows."""
        return is_level((rows + rows[-1:] * (LEAST_ROWS - len(rows)), (), self._houses, self._pull))

    def _level(self, starts):
        """Returns the level with some starts."""
        return (tuple(self._rows), tuple(starts), self._houses, self._pull)

    def _take_start(self, start):
        """Takes a start, which has to stand right if it is of the smallest kind; or None, if it is none."""
        self._starts.append(start)
        level = self._level(self._starts)
        return self._kinds == [] and is_level(level) and starts_stand_right(level, (SMALLEST,) * MOST_KINDS)

    def _take_kind(self, words):
        """Takes the words of the first line of a kind."""
        numbers = integers_in(words[2:4] + words[5:])
        if len(words) < 5 or numbers is None:
            return False
        traits = () if words[4] == "-" else tuple(words[4].split(","))
        kind = (words[1], *numbers[:2], traits, numbers[2:], ())
        if not is_kind(kind) or kind[0] in [other[0] for other in self._kinds] or len(self._kinds) == MOST_KINDS:
            return False
        self._kinds.append(kind)
        self._script = ScriptPage()
        told = [start for start in self._starts if start[0] < len(self._kinds)]
        return is_level(self._level(told)) and starts_stand_right(self._level(told), self._kinds)

    def _take_in_kind(self, line):
        """Takes a line of the script of a kind, or that behind it."""
        if line == "end" and self._script.is_whole():
            self._kinds[-1] = self._kinds[-1][:5] + (self._script.told(),)
            self._script = None
            return True
        return line.startswith(INDENT) and self._script.take(line[len(INDENT):])

    def is_whole(self):
        """Returns True if the lines so far are the text of a game."""
        return self._script is None and is_game(self.told())

    def told(self):
        """Returns the game."""
        return (self._level(self._starts), tuple(self._kinds))
