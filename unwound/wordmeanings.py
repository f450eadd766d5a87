"""MEANINGS whose things are WORDS: a STEP leads from a WORD to the one that has it more at the end [16].

Where no thing is such a WORD a STEP leads to one more thing, the last; from there all STEPS lead to it. If each NAME
goes there to the leaf that it ends by, nothing is asked for ever.
"""

from unwound.programs import way_to


def beginnings(words):
    """The tuple of all beginnings of words, themselves too, shorter ones first, of one length ascending."""
    found = {word[:many] for word in words for many in range(len(word) + 1)}
    return tuple(sorted(sorted(found), key=len))


def steps_along(words, many):
    """The tables of so many STEPS."""
    places = {word: place for place, word in enumerate(words)}
    return tuple([
        tuple([places.get(word + (step,), len(words)) for word in words] + [len(words)])
        for step in range(many)])


def ending_sides(rules, ends):
    """For each TEST on the way to the leaf that its NAME ends by: whether it holds on this way."""
    return {test: yes for rule, leaf in zip(rules, ends) for test, yes in way_to(rule, leaf)}


def meaning_along(words, tables, ending, settled):
    """The MEANING of words, tables being how many it has of STEPS and of TESTS. For each triple (RULE, place of a leaf,
    WORD) of settled the TESTS of the RULE lead to this leaf at the WORD; elsewhere TESTS hold as ending has it."""
    told = {(test, word): yes for rule, number, word in settled for test, yes in way_to(rule, number)}
    tests = [
        tuple([told.get((test, word), ending.get(test, False)) for word in words] + [ending.get(test, False)])
        for test in range(tables[1])]
    return len(words) + 1, steps_along(words, tables[0]), tuple(tests)
