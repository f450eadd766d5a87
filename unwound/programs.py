"""PROGRAMS: RULES, their leaves and calls, COMPONENTS of NAMES that call one another [6]."""

from unwound.common import behind_order, frozen, is_natural, is_tuple, require_place
from unwound.errors import Endless, Ring, Unfit
from unwound.terms import calls_in, folded, is_term, making, occurrences


def is_program(thing):
    """True if thing is a PROGRAM."""
    if not isinstance(thing, tuple) or not thing or not all(_is_rule(rule) for rule in thing):
        return False
    tests = [choice[1] for rule in thing for choice in _choices(rule) if choice[0] == "ask"]
    if len(set(tests)) < len(tests):
        return False
    if not all(name < len(thing) for rule in thing for name in _names_called(rule)):
        return False
    return not _goes_in_ring(thing) and not _endless(thing)


def checked(rules):
    """The PROGRAM that rules are."""
    program = frozen(rules)
    if _goes_in_ring(program):
        raise Ring(_least_ring([_called_at_once(rule) for rule in program]))
    endless = _endless(program)
    if endless:
        raise Endless(endless)
    return program


def _is_rule(thing):
    """True if thing is a RULE."""
    waiting = [thing]
    while waiting:
        choice = waiting.pop()
        if is_tuple(choice, 4) and choice[0] == "ask" and is_natural(choice[1]):
            waiting.extend(choice[2:])
        elif not is_tuple(choice, 2) or choice[0] != "leaf" or not is_term(choice[1]):
            return False
    return True


def _choices(rule):
    """The list of the CHOICES in rule, from left to right, each ahead of those within it."""
    found, waiting = [], [rule]
    while waiting:
        choice = waiting.pop()
        found.append(choice)
        if choice[0] == "ask":
            waiting.extend((choice[3], choice[2]))
    return found


def leaves_in(rule):
    """The list of the leaves of rule, from left to right, lists or tuples as they stand."""
    return [choice[1] for choice in _choices(rule) if choice[0] == "leaf"]


def calls_in_order(rule):
    """The list of the calls in rule, lists or tuples as they stand, from left to right, as often as they stand."""
    return [part for leaf in leaves_in(rule) for part in occurrences(leaf) if part[0] == "call"]


def _names_called(rule):
    """The list, ascending, of the NAMES that rule calls."""
    return sorted({call[1] for call in calls_in_order(rule)})


def _called_at_once(rule):
    """The list, ascending, of the NAMES that rule calls without a STEP."""
    return sorted({call[1] for call in calls_in_order(rule) if not call[2]})


def tables_used(program):
    """The pair of how many tables of STEPS and how many of TESTS program takes."""
    steps, tests, waiting = [-1], [-1], list(program)
    while waiting:
        part = waiting.pop()
        if part[0] == "ask":
            tests.append(part[1])
            waiting.extend(part[2:])
        elif part[0] == "leaf":
            waiting.append(part[1])
        elif part[0] == "make":
            waiting.extend(part[2])
        else:
            steps.extend(part[-1])
    return max(steps) + 1, max(tests) + 1


def _order_at_once(rules):
    """The NAMES in still order, but for those that come to a ring of calls without a STEP."""
    return behind_order([_called_at_once(rule) for rule in rules])


def _goes_in_ring(rules):
    """True if calls go in a ring without a STEP."""
    return len(_order_at_once(rules)) < len(rules)


def _least_ring(nexts):
    """Of the shortest rings of places, each of which leads to the next one, the least.

    The rows grow place by place and stay ascending: so the first one that closes is the one.
    """
    rows = [(place,) for place in range(len(nexts))]
    met = set()
    while rows:
        longer = []
        for row in rows:
            if row[0] in nexts[row[-1]]:
                return row
            for place in nexts[row[-1]]:
                if (row[0], place) not in met:
                    met.add((row[0], place))
                    longer.append(row + (place,))
        rows = longer
    return None


def _endless(rules):
    """The set of the NAMES that can not end."""
    lacking, users = [], [[] for _ in rules]
    for name, rule in enumerate(rules):
        for leaf in leaves_in(rule):
            needed = sorted({called_name for called_name, word in calls_in(leaf)})
            for called_name in needed:
                users[called_name].append(len(lacking))
            lacking.append([name, len(needed)])
    can_end = [False for _ in rules]
    waiting = [name for name, many in lacking if many == 0]
    while waiting:
        name = waiting.pop()
        if not can_end[name]:
            can_end[name] = True
            waiting.extend(_now_ending(lacking, users[name]))
    return tuple([name for name in range(len(rules)) if not can_end[name]])


def _now_ending(lacking, leaves):
    """The NAMES of those leaves that lack nothing more, now that each of leaves lacks one NAME less."""
    names = []
    for leaf in leaves:
        lacking[leaf][1] -= 1
        if lacking[leaf][1] == 0:
            names.append(lacking[leaf][0])
    return names


def leaves_of(rule):
    """The tuple of the leaves of rule, from left to right."""
    return tuple(leaves_in(frozen(rule)))


def tests_of(rule):
    """The set of the TESTS of rule."""
    return tuple(sorted({choice[1] for choice in _choices(rule) if choice[0] == "ask"}))


def way_to(rule, number):
    """The tuple of the pairs (test, yes), in order, by which one comes to the leaf of this number."""
    require_place(number, len(leaves_in(rule)))
    choice, ahead, way = rule, number, []
    while choice[0] == "ask":
        many = len(leaves_in(choice[2]))
        yes = ahead < many
        way.append((choice[1], yes))
        if not yes:
            ahead -= many
        choice = choice[2] if yes else choice[3]
    return tuple(way)


def leaf_by(rule, held):
    """The number of the leaf to which one comes if of the TESTS of rule those in held hold."""
    choice, number = rule, 0
    while choice[0] == "ask":
        if choice[1] in held:
            choice = choice[2]
        else:
            number += len(leaves_in(choice[2]))
            choice = choice[3]
    return number


def called(program, name):
    """The set of the NAMES that name calls."""
    require_place(name, len(program))
    return tuple(_names_called(program[name]))


def reached(program):
    """The set of the NAMES to which 0 comes."""
    return _come_to([_names_called(rule) for rule in program], 0)


def _come_to(nexts, first):
    """The set of the places to which one comes from first, itself too."""
    found, waiting = {first: True}, [first]
    while waiting:
        for place in nexts[waiting.pop()]:
            if place not in found:
                found[place] = True
                waiting.append(place)
    return tuple(sorted(found))


def reached_part(program):
    """The PROGRAM of the NAMES to which 0 comes, numbered anew in their order."""
    numbers = {name: number for number, name in enumerate(reached(program))}
    return tuple([with_names(program[name], numbers) for name in numbers])


def with_names(rule, names):
    """The RULE, with tuples for lists, in which NAME f is called names[f]."""
    return with_leaves(rule, lambda part: _part_with_name(part, names))


def with_leaves(rule, of_part):
    """The RULE in which of_part(part) stands for each part of its leaves that has no terms."""
    return rule_folded(
        rule,
        lambda number, leaf: ("leaf", folded(leaf, of_part, making)),
        lambda test, yes, no: ("ask", test, yes, no))


def rule_folded(rule, of_leaf, of_ask):
    """What rule comes to if each leaf comes to of_leaf(number, leaf), from the last one to the first, and
    each ask to of_ask(test, yes, no), yes and no being what its two CHOICES come to."""
    made, number = [], len(leaves_in(rule))
    for choice in reversed(_choices(rule)):
        if choice[0] == "leaf":
            number -= 1
            made.append(of_leaf(number, choice[1]))
        else:
            yes = made.pop()
            no = made.pop()
            made.append(of_ask(choice[1], yes, no))
    return made[0]


def _part_with_name(part, names):
    """The TERM without terms in which NAME f is called names[f]."""
    if part[0] == "at":
        return ("at", tuple(part[1]))
    return ("call", names[part[1]], tuple(part[2]))


def components(program):
    """The tuple of all COMPONENTS, each behind all others that its NAMES call."""
    rules = frozen(program)
    homes = homes_of(rules)
    groups = [home for name, home in enumerate(homes) if home[0] == name]
    numbers = {name: number for number, group in enumerate(groups) for name in group}
    led_to = []
    for number, group in enumerate(groups):
        after = [numbers[other] for name in group for other in _names_called(rules[name])]
        led_to.append(sorted({other for other in after if other != number}))
    # The groups stand in the order of their least NAMES, so the least place is the least NAME.
    return tuple([groups[number] for number in behind_order(led_to)])


def homes_of(rules):
    """The list with, for each NAME, its COMPONENT."""
    nexts = [_names_called(rule) for rule in rules]
    comes_to = [_come_to(nexts, name) for name in range(len(rules))]
    return [tuple([other for other in others if name in comes_to[other]]) for name, others in enumerate(comes_to)]


def component_of(program, name):
    """The COMPONENT of name."""
    rules = frozen(program)
    require_place(name, len(rules))
    return homes_of(rules)[name]


def own_calls(program, name):
    """The tuple with, for each leaf of name, the set of its own calls."""
    rules = frozen(program)
    require_place(name, len(rules))
    return own_table(rules)[name]


def own_table(rules):
    """The list with, for each NAME, the tuple with, for each of its leaves, the set of its own calls."""
    homes = homes_of(rules)
    return [
        tuple([_calls_of(leaf, homes[name]) for leaf in leaves_in(rule)])
        for name, rule in enumerate(rules)]


def _calls_of(leaf, names):
    """The set of the calls of leaf that call one of names."""
    return tuple([call for call in calls_in(leaf) if call[0] in names])


def kind_of(program, name):
    """The one of "still", "path" and "wide" that the COMPONENT of name is."""
    rules = frozen(program)
    home = component_of(rules, name)
    return kind_in(own_table(rules), home)


def kind_in(table, home):
    """The one of "still", "path" and "wide" that the COMPONENT home is; table has the own calls."""
    most = max([len(calls) for name in home for calls in table[name]])
    if most == 0:
        return "still"
    return "path" if most == 1 else "wide"


def is_plain(program, name):
    """True if the COMPONENT of name is wide, and each of its NAMES has just one leaf with own calls."""
    rules = frozen(program)
    home = component_of(rules, name)
    return is_plain_in(own_table(rules), home)


def is_plain_in(table, home):
    """True if the COMPONENT home is wide and plain; table has the own calls."""
    if kind_in(table, home) != "wide":
        return False
    return all(len([calls for calls in table[name] if calls]) == 1 for name in home)


def still_order(program):
    """The tuple of all NAMES, each behind those that it calls without a STEP."""
    return tuple(_order_at_once(frozen(program)))


def renamed(program, names):
    """The PROGRAM in which NAME f is called names[f]."""
    rules, anew = frozen(program), frozen(names)
    if sorted(anew) != list(range(len(rules))):
        raise Unfit()
    by_name = {anew[name]: with_names(rule, anew) for name, rule in enumerate(rules)}
    return tuple([by_name[name] for name in range(len(rules))])
