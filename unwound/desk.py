"""A desk that holds a PROGRAM, a MEANING and LOOPS, and works requests [23]."""

from unwound.errors import BadLine, CanNot, Endless, NoPlace, Ring, TooMuch, Unfit
from unwound.loops import run
from unwound.meanings import answer, asks_at, ring_from
from unwound.nests import loops_of
from unwound.programs import kind_of
from unwound.readers import lines_of, numbers_of
from unwound.rows import can_loop
from unwound.texts import loops_read, meaning_read, meaning_text, program_read, program_text, value_text

MOST_FIGURES = 9
WITH_TEXT = ("program", "meaning", "loops")
NUMBERS_BEHIND = {"make": 0, "rules": 0, "things": 0, "kinds": 0, "can": 0, "asks": 2, "ends": 2, "answer": 2, "run": 1}


class Held:
    """What lies on the desk."""

    def __init__(self):
        self.program_held = (("leaf", ("at", ())),)
        self.meaning_held = (1, (), ())
        self.loops_held = (1, 0, (((), ("stop", 0)),))

    def take(self, word, text):
        """Holds what a deed says."""
        if word == "program":
            self.program_held = program_read(text)
        elif word == "meaning":
            self.meaning_held = meaning_read(text)
        elif word == "loops":
            self.loops_held = loops_read(text)
        else:
            self.loops_held = loops_of(self.program_held)
        return "done"

    def tell(self, word, numbers):
        """The reply to a request that asks."""
        if word == "rules":
            return program_text(self.program_held)
        if word == "things":
            return meaning_text(self.meaning_held)
        if word == "kinds":
            return " ".join([kind_of(self.program_held, name) for name in range(len(self.program_held))])
        if word == "can":
            return _yes(can_loop(self.program_held))
        if word == "run":
            return value_text(run(self.loops_held, self.meaning_held, *numbers))
        if word == "answer":
            return value_text(answer(self.program_held, self.meaning_held, *numbers))
        if word == "ends":
            return _yes(ring_from(self.program_held, self.meaning_held, *numbers) is None)
        asks = asks_at(self.program_held, self.meaning_held, *numbers)
        return "\n".join([f"{name} {x}" for name, x in asks]) if asks else "-"


def _yes(held):
    """yes or no."""
    return "yes" if held else "no"


def _parted(text):
    """The list of the requests of text: triples of the line at which it begins, from 1, of this line, and of the list
    of the lines of its text. A line that begins with a blank ahead of all requests is taken for one."""
    found = []
    for number, line in enumerate(lines_of(text), 1):
        if found and line[:1] == " ":
            found[-1][2].append(line[1:])
        else:
            found.append((number, line, []))
    return found


def _told(line, below):
    """The pair of the word and of the numbers of a request; None if it is none. below has the lines of its text."""
    words = line.split(" ")
    if words[0] in WITH_TEXT:
        return (words[0], ()) if len(words) == 1 and below else None
    numbers = numbers_of(words[1:]) if all(len(own) <= MOST_FIGURES for own in words[1:]) else None
    if below or numbers is None or NUMBERS_BEHIND.get(words[0]) != len(numbers):
        return None
    return words[0], numbers


def is_request(thing):
    """True if thing is a string that is one request, whatever its text."""
    if not isinstance(thing, str):
        return False
    parted = _parted(thing)
    return len(parted) == 1 and _told(parted[0][1], parted[0][2]) is not None


def desk(text):
    """The list of the replies to the requests of text."""
    requests = []
    for number, line, below in _parted(text):
        told = _told(line, below)
        if told is None:
            raise BadLine(number)
        requests.append((told[0], told[1], "\n".join(below)))
    held = Held()
    return [_reply(held, word, numbers, own_text) for word, numbers, own_text in requests]


def _reply(held, word, numbers, text):
    """The reply to a request; held is changed if it is a deed that is not refused."""
    try:
        return held.take(word, text) if word in WITH_TEXT or word == "make" else held.tell(word, numbers)
    except NoPlace:
        return "refused NoPlace"
    except BadLine:
        return "refused BadLine"
    except CanNot:
        return "refused CanNot"
    except TooMuch:
        return "refused TooMuch"
    except Unfit:
        return "refused Unfit"
    except Ring:
        return "refused Ring"
    except Endless:
        return "refused Endless"
