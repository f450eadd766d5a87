"""PROGRAMS by chance whose COMPONENTS are paths, rows and still NAMES, for the tests of LOOPS."""

from tests.support import meaning_by_chance, word_by_chance

MAKERS = 10


def leaf_by_chance(dice, calls):
    """A leaf with these calls, some things, and makings of them; like calls may stand in it twice."""
    terms = list(calls) + [("at", word_by_chance(dice, 2)) for _ in range(dice.randint(0, 1) if calls else 1)]
    dice.shuffle(terms)
    while len(terms) > 1:
        many = dice.randint(2, len(terms))
        terms[:many] = [("make", dice.randrange(MAKERS), tuple(terms[:many]))]
        dice.shuffle(terms)
    return "leaf", terms[0] if dice.random() < 0.5 else ("make", dice.randrange(MAKERS), tuple(terms))


def rule_of(dice, leaves, tests):
    """A RULE with these leaves, in their order."""
    if len(leaves) == 1:
        return leaves[0]
    many = dice.randint(1, len(leaves) - 1)
    return "ask", tests.pop(), rule_of(dice, leaves[:many], tests), rule_of(dice, leaves[many:], tests)


def foreign_calls(dice, names, most):
    """Calls of NAMES that are not of the own COMPONENT, of at most so many NAMES and WORDS."""
    return [("call", dice.choice(names), word_by_chance(dice, 2)) for _ in range(dice.randint(0, most) if names else 0)]


def path_rules(dice, home, lower, tests, foreign=2):
    """The RULES of a COMPONENT home that is a path, and calls NAMES of lower, too."""
    rules = []
    for place, name in enumerate(home):
        leaves = []
        for number in range(dice.randint(2 if place == 0 else 1, 3)):
            calls = foreign_calls(dice, lower, foreign)
            if number == 1 or place and number == 0 or dice.random() < 0.4:
                after = home[(place + 1) % len(home)] if number == (place == 0) else dice.choice(home)
                calls += [("call", after, word_by_chance(dice, 2))] * dice.choice((1, 1, 2))
            leaves.append(leaf_by_chance(dice, calls))
        dice.shuffle(leaves)
        rules.append(rule_of(dice, leaves, tests))
    return rules


def still_rules(dice, lower, tests, foreign=2):
    """The RULE of a NAME that is still."""
    leaves = [leaf_by_chance(dice, foreign_calls(dice, lower, foreign)) for _ in range(dice.randint(1, 3))]
    return [rule_of(dice, leaves, tests)]


def path_program(dice, most_names=3, most_still=2):
    """RULES that may be a PROGRAM along a path."""
    tests = dice.sample(range(12), 12)
    home = list(range(dice.randint(1, most_names)))
    still = list(range(len(home), len(home) + dice.randint(0, most_still)))
    rules = path_rules(dice, home, still, tests)
    for name in still:
        rules += still_rules(dice, [other for other in still if other > name], tests)
    return tuple(rules)


def row_rules(dice, home, lower, tests, foreign=2, most_steps=3, plain=True):
    """The RULES of a COMPONENT home that keeps to a row; it calls NAMES of lower, too. If it is to be plain, each
    has one leaf of own calls, else there may be more."""
    row = tuple(dice.randrange(2) for _ in range(dice.randint(1, 4)))
    places = [dice.randrange(len(row)) for _ in home]
    rules = []
    for number, name in enumerate(home):
        def own_calls(others):
            return [call for other in others for call in row_calls(dice, row, places[number], places[other], home[other], most_steps)]
        first = [(number + 1) % len(home)]
        own = own_calls(first + [dice.randrange(len(home)) for _ in range(dice.randint(0, 2))])
        leaves = [leaf_by_chance(dice, own + foreign_calls(dice, lower, foreign))]
        for _ in range(dice.randint(1 if number == 0 else 0, 2)):
            more = own_calls([dice.randrange(len(home))]) if not plain and leaves[1:] else []
            leaves.append(leaf_by_chance(dice, more + foreign_calls(dice, lower, foreign)))
        dice.shuffle(leaves)
        rules.append(rule_of(dice, leaves, tests))
    return rules


def row_calls(dice, row, place, end, name, most_steps):
    """A call of name from this place of the row to that end, if one of at most so many STEPS keeps to it."""
    sizes = [size for size in range(most_steps + 1) if (place + size - end) % len(row) == 0]
    if not sizes:
        return []
    return [("call", name, (row * 9)[place:place + dice.choice(sizes)])]


def wide_rules(dice, home, lower, tests, foreign=1):
    """The RULES of a plain wide COMPONENT home, whose WORDS are drawn; it calls NAMES of lower, too."""
    rules = []
    for number, name in enumerate(home):
        own = [("call", home[(number + 1) % len(home)], word_by_chance(dice, 2))]
        own += [("call", dice.choice(home), word_by_chance(dice, 3)) for _ in range(dice.randint(0, 2))]
        leaves = [leaf_by_chance(dice, own + foreign_calls(dice, lower, foreign))]
        for _ in range(dice.randint(1 if number == 0 else 0, 2)):
            leaves.append(leaf_by_chance(dice, foreign_calls(dice, lower, foreign)))
        dice.shuffle(leaves)
        rules.append(rule_of(dice, leaves, tests))
    return rules


def nest_program(dice, most_foreign=1, kinds=(path_rules, row_rules, row_rules)):
    """RULES that may be a PROGRAM of COMPONENTS within one another: of these kinds, and still NAMES."""
    tests, names, homes = dice.sample(range(20), 20), 0, []
    for _ in range(dice.randint(1, 3)):
        many = dice.choice((1, 1, 2))
        homes.append(list(range(names, names + many)))
        names += many
    rules = []
    for place, home in enumerate(homes):
        lower = [name for other in homes[place + 1:] for name in other]
        if len(home) == 1 and dice.random() < 0.25:
            rules += still_rules(dice, lower, tests, most_foreign)
        else:
            rules += dice.choice(kinds)(dice, home, lower, tests, most_foreign)
    return tuple(rules)


def meanings_by_chance(dice, tests=20):
    """Two MEANINGS of two STEPS: one whose things go on to a last one, at which many TESTS hold, one that is drawn."""
    many = dice.choice((1, 3, 5, 8))
    steps = tuple(tuple(min(x + size, many - 1) for x in range(many)) for size in (1, dice.choice((1, 2))))
    held = tuple(tuple(dice.random() < 0.3 or x == many - 1 and dice.random() < 0.8 for x in range(many)) for _ in range(tests))
    return (many, steps, held), meaning_by_chance(dice, 5, 2, tests)
