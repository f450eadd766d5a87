"""Texts of PROGRAMS, LOOPS and MEANINGS, writings of TERMS and VALUES [21]."""

from unwound.common import frozen
from unwound.errors import Unfit
from unwound.loops import is_loops
from unwound.programs import checked, leaves_of, tests_of
from unwound.readers import lines_of, loops_lines_read, meaning_lines_read, rules_read, term_of
from unwound.terms import calls_in, folded


def term_text(term):
    """The writing of term."""
    return folded(frozen(term), _leaf_written, _making_written)


def _leaf_written(part):
    """The writing of a TERM without terms."""
    steps = "".join([f".{step}" for step in part[-1]])
    return "x" + steps if part[0] == "at" else f"f{part[1]}{steps}"


def _making_written(maker, written):
    """The writing of what maker makes of TERMS, or VALUES, that are written."""
    return f"m{maker}(" + ",".join(written) + ")"


def value_text(value):
    """The writing of value."""
    return folded(frozen(value), lambda part: str(part[1]), _making_written)


def _choice_lines(rule):
    """The lines of a RULE, a CHOICE."""
    lines, waiting = [], [rule]
    while waiting:
        choice = waiting.pop()
        if choice[0] == "leaf":
            lines.append("leaf " + term_text(choice[1]))
        else:
            lines.append(f"ask {choice[1]}")
            waiting.extend((choice[3], choice[2]))
    return lines


def program_text(program):
    """The text of program."""
    return "\n".join([line for rule in frozen(program) for line in ["rule"] + _choice_lines(rule)])


def _words_line(words):
    """The line of words and numbers, those in a tuple one by one; True and False are up and down."""
    flat = [own for word in words for own in (word if isinstance(word, tuple) else (word,))]
    marks = ["up" if own is True else "down" if own is False else str(own) for own in flat]
    return " ".join(marks)


def loops_text(loops):
    """The text of loops."""
    cells, flags, blocks = frozen(loops)
    lines = [f"loops {cells} {flags}"]
    for deeds, end in blocks:
        lines.append("block")
        lines.extend([_words_line(line) for line in deeds + (end,)])
    return "\n".join(lines)


def meaning_text(meaning):
    """The text of meaning."""
    many, steps, tests = frozen(meaning)
    lines = [f"meaning {many}"]
    lines.extend([_words_line(("step", table)) for table in steps])
    lines.extend([" ".join(["test"] + ["yes" if held else "no" for held in table]) for table in tests])
    return "\n".join(lines)


def term_read(word):
    """The TERM with this writing; None if there is none."""
    return term_of(word)


def program_read(text):
    """The PROGRAM that has this text."""
    rules = rules_read(lines_of(text))
    names = [call[0] for rule in rules for leaf in leaves_of(rule) for call in calls_in(leaf)]
    tests = [test for rule in rules for test in tests_of(rule)]
    # A RULE asks one time less than it has leaves.
    asks = sum([len(leaves_of(rule)) - 1 for rule in rules])
    if max(names, default=0) >= len(rules) or len(set(tests)) < asks:
        raise Unfit()
    return checked(rules)


def loops_read(text):
    """The LOOPS that have this text."""
    loops = loops_lines_read(lines_of(text))
    if not is_loops(loops):
        raise Unfit()
    return loops


def meaning_read(text):
    """The MEANING that has this text."""
    return meaning_lines_read(lines_of(text))
