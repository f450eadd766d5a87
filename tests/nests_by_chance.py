"""PROGRAMS by chance whose COMPONENTS are paths, rows and still NAMES, for the tests of LOOPS."""

from tests.support import word_by_chance

MAKERS = 10


def leaf_by_chance(dice, calls):
    """A leaf with these calls, some things, and makings of them; like calls may stand in it twice."""
    terms = list(calls) + [("at", word_by_chance(dice, 2)) for _ in range(dice.randint(0, 1) if calls else 1)]
    dice.shuffle(terms)
    while len(terms) > 1:
        many = dice.randint(2, len(terms))
        terms[:many] = [("make", dice.randrange(MAKERS), tuple(terms[:many]))]
        dice.shuffle(terms)
    return "leaf", terms[0] if dice.random() < 0.5 else ("make", dice.randrange(MAKERS), tuple(terms))


def rule_of(dice, leaves, tests):
    """A RULE with these leaves, in their order."""
    if len(leaves) == 1:
        return leaves[0]
    many = dice.randint(1, len(leaves) - 1)
    return "ask", tests.pop(), rule_of(dice, leaves[:many], tests), rule_of(dice, leaves[many:], tests)


def foreign_calls(dice, names, most):
    """Calls of NAMES that are not of the own COMPONENT, of at most so many NAMES and WORDS."""
    return [("call", dice.choice(names), word_by_chance(dice, 2)) for _ in range(dice.randint(0, most) if names else 0)]


def path_rules(dice, home, lower, tests, foreign=2):
    """The RULES of a COMPONENT home that is a path, and calls NAMES of lower, too."""
    rules = []
    for place, name in enumerate(home):
        leaves = []
        for number in range(dice.randint(2 if place == 0 else 1, 3)):
            calls = foreign_calls(dice, lower, foreign)
            if number == 1 or place and number == 0 or dice.random() < 0.4:
                after = home[(place + 1) % len(home)] if number == (place == 0) else dice.choice(home)
                calls += [("call", after, word_by_chance(dice, 2))] * dice.choice((1, 1, 2))
            leaves.append(leaf_by_chance(dice, calls))
        dice.shuffle(leaves)
        rules.append(rule_of(dice, leaves, tests))
    return rules


def still_rules(dice, lower, tests, foreign=2):
    """The RULE of a NAME that is still."""
    leaves = [leaf_by_chance(dice, foreign_calls(dice, lower, foreign)) for _ in range(dice.randint(1, 3))]
    return [rule_of(dice, leaves, tests)]


def path_program(dice, most_names=3, most_still=2):
    """RULES that may be a PROGRAM along a path."""
    tests = dice.sample(range(12), 12)
    home = list(range(dice.randint(1, most_names)))
    still = list(range(len(home), len(home) + dice.randint(0, most_still)))
    rules = path_rules(dice, home, still, tests)
    for name in still:
        rules += still_rules(dice, [other for other in still if other > name], tests)
    return tuple(rules)


def row_rules(dice, home, lower, tests, foreign=2, most_steps=3):
    """The RULES of a COMPONENT home that keeps to a row, each with one leaf of own calls; it calls NAMES of lower, too."""
    row = tuple(dice.randrange(2) for _ in range(dice.randint(1, 4)))
    places = [dice.randrange(len(row)) for _ in home]
    rules = []
    for number, name in enumerate(home):
        own = []
        for other in [(number + 1) % len(home)] + [dice.randrange(len(home)) for _ in range(dice.randint(0, 2))]:
            sizes = [size for size in range(most_steps + 1) if (places[number] + size - places[other]) % len(row) == 0]
            if sizes:
                size = dice.choice(sizes)
                own.append(("call", home[other], tuple((row * 9)[places[number]:places[number] + size])))
        leaves = [leaf_by_chance(dice, own + foreign_calls(dice, lower, foreign))]
        for _ in range(dice.randint(1 if number == 0 else 0, 2)):
            leaves.append(leaf_by_chance(dice, foreign_calls(dice, lower, foreign)))
        dice.shuffle(leaves)
        rules.append(rule_of(dice, leaves, tests))
    return rules


def nest_program(dice, most_foreign=1):
    """RULES that may be a PROGRAM of COMPONENTS within one another: paths, rows and still NAMES."""
    tests, names, homes = dice.sample(range(20), 20), 0, []
    for _ in range(dice.randint(1, 3)):
        many = dice.choice((1, 1, 2))
        homes.append(list(range(names, names + many)))
        names += many
    rules = []
    for place, home in enumerate(homes):
        lower = [name for other in homes[place + 1:] for name in other]
        kind = dice.choice((path_rules, row_rules, row_rules, still_rules)) if len(home) == 1 else dice.choice((path_rules, row_rules))
        rules += kind(dice, home, lower, tests, most_foreign) if kind is not still_rules else kind(dice, lower, tests, most_foreign)
    return tuple(rules)
