"""How lines and words of texts are read [21].

Each reader of lines raises BadLine(line) for the first line that can not stand there behind those ahead of it, or, if
lines are wanting, for the one behind the last.
"""

from unwound.errors import BadLine
from unwound.terms import making

NUMBERS_BEHIND = {"copy": 2, "step": 2, "go": 1, "ask": 4, "seen": 3, "stop": 1}
ENDS = ("go", "ask", "seen", "stop")


def lines_of(text):
    """The list of the lines of text; the empty text has none."""
    return text.split("\n") if text else []


def number_of(word):
    """The number that word is in figures, without a needless 0 ahead; None if it is none."""
    if not word.isascii() or not word.isdigit() or len(word) > 1 and word[0] == "0":
        return None
    return int(word)


def numbers_of(words):
    """The tuple of the numbers that words are; None if one is none."""
    numbers = [number_of(word) for word in words]
    return None if None in numbers else tuple(numbers)


def term_of(word):
    """The TERM with this writing; None if there is none."""
    if " " in word:
        return None
    # term is the TERM that was read last, if what stands behind it is to come; open_ones are the makings around.
    term, maker, open_ones = None, None, []
    for mark in _marks(word):
        if maker is not None:
            if mark != "(":
                return None
            open_ones.append((maker, []))
            maker = None
        elif term is None:
            maker = number_of(mark[1:]) if mark[0] == "m" else None
            term = _leaf_of(mark) if maker is None else None
            if maker is None and term is None:
                return None
        elif not open_ones or mark not in (",", ")"):
            return None
        else:
            own, terms = open_ones[-1]
            terms.append(term)
            term = None
            if mark == ")":
                open_ones.pop()
                term = making(own, terms)
    return None if open_ones else term


def _marks(word):
    """The list of the brackets and commas of word, and of what stands between them."""
    parted = word.replace("(", " ( ").replace(",", " , ").replace(")", " ) ")
    return [mark for mark in parted.split(" ") if mark]


def _leaf_of(mark):
    """The TERM without terms with this writing; None if there is none."""
    words = mark.split(".")
    steps = numbers_of(words[1:])
    if steps is None:
        return None
    if words[0] == "x":
        return "at", steps
    name = number_of(words[0][1:]) if words[0][:1] == "f" else None
    return None if name is None else ("call", name, steps)


def rules_read(lines):
    """The tuple of the RULES of a PROGRAM with these lines."""
    rules, wanting = [], 0
    for number, line in enumerate(lines):
        if wanting:
            choice = _choice_line(line)
            if choice is None:
                raise BadLine(number)
            rules[-1].append(choice)
            wanting += 1 if choice[0] == "ask" else -1
        elif line == "rule":
            rules.append([])
            wanting = 1
        else:
            raise BadLine(number)
    if wanting or not rules:
        raise BadLine(len(lines))
    return tuple([_rule_of(choices) for choices in rules])


def _choice_line(line):
    """The pair ("ask", test) or ("leaf", term) of a line; None if it is no such line."""
    words = line.split(" ")
    if len(words) != 2 or words[0] not in ("ask", "leaf"):
        return None
    told = number_of(words[1]) if words[0] == "ask" else term_of(words[1])
    return None if told is None else (words[0], told)


def _rule_of(choices):
    """The RULE whose lines these are, each ahead of those within it."""
    made = []
    for choice in reversed(choices):
        if choice[0] == "ask":
            yes = made.pop()
            choice = choice + (yes, made.pop())
        made.append(choice)
    return made[0]


def _first_numbers(lines, word, many):
    """The numbers behind word in the first line, so many, the first of them not 0."""
    words = lines[0].split(" ") if lines else []
    numbers = numbers_of(words[1:])
    if words[:1] != [word] or numbers is None or len(numbers) != many or numbers[0] == 0:
        raise BadLine(0)
    return numbers


def loops_lines_read(lines):
    """The triple (cells, flags, blocks) with these lines; what numbers there are is not asked."""
    cells, flags = _first_numbers(lines, "loops", 2)
    blocks, deeds = [], None
    for number, line in enumerate(lines[1:], 1):
        told = _deed_line(line)
        if deeds is None and line == "block":
            deeds = []
        elif deeds is None or told is None:
            raise BadLine(number)
        elif told[0] in ENDS:
            blocks.append((tuple(deeds), told))
            deeds = None
        else:
            deeds.append(told)
    if deeds is not None or not blocks:
        raise BadLine(len(lines))
    return cells, flags, tuple(blocks)


def _deed_line(line):
    """The deed, or the end, of a line; None if it is no such line."""
    words = line.split(" ")
    if words[0] == "flag" and len(words) == 3:
        flag = number_of(words[1])
        return None if flag is None or words[2] not in ("up", "down") else ("flag", flag, words[2] == "up")
    numbers = numbers_of(words[1:])
    if numbers is None:
        return None
    if words[0] == "make" and len(numbers) > 2:
        return ("make",) + numbers[:2] + (numbers[2:],)
    return (words[0],) + numbers if NUMBERS_BEHIND.get(words[0]) == len(numbers) else None


def meaning_lines_read(lines):
    """The MEANING with these lines."""
    many = _first_numbers(lines, "meaning", 1)[0]
    steps, tests = [], []
    for number, line in enumerate(lines[1:], 1):
        words = line.split(" ")
        if len(words) != many + 1:
            raise BadLine(number)
        things = numbers_of(words[1:])
        if words[0] == "step" and not tests and things is not None and max(things) < many:
            steps.append(things)
        elif words[0] == "test" and all(word in ("yes", "no") for word in words[1:]):
            tests.append(tuple([word == "yes" for word in words[1:]]))
        else:
            raise BadLine(number)
    return many, tuple(steps), tuple(tests)
