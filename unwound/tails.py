"""Calls that need no stack: bare calls, bare NAMES, calls that wait, LOOPS without FLAGS [19]."""

from unwound.common import frozen, is_natural, is_tuple
from unwound.errors import CanNot, Unfit
from unwound.meanings import asked_of, ending_order, is_for, is_meaning, leaf_of, thing_at, web_from
from unwound.programs import components, homes_of, leaves_of, own_table, reached, tables_used
from unwound.sheets import Sheet, most_parts, rule_code, steps_deeds, term_code
from unwound.terms import calls_in
from unwound.trees import ends_by
from unwound.wordmeanings import beginnings, ending_sides, meaning_along


def bare_calls(program):
    """The set of the pairs (name, number) such that the leaf of this number of name is a call."""
    return tuple([
        (name, number) for name, rule in enumerate(frozen(program)) for number, leaf in enumerate(leaves_of(rule))
        if leaf[0] == "call"])


def bare_names(program):
    """The set of the bare NAMES."""
    rules = frozen(program)
    homes, bare = homes_of(rules), {}
    for name, leaves in enumerate(own_table(rules)):
        for leaf, calls in zip(leaves_of(rules[name]), leaves):
            if calls and leaf[0] != "call":
                bare[homes[name]] = False
    return tuple([name for name, home in enumerate(homes) if bare.get(home, True)])


def waits(program, meaning, name, start):
    """The greatest number of calls that wait on a WAY from the ASK (name, start)."""
    rules, sense = asked_of(program, meaning, name, start)
    many = _waits_told(rules, sense, (name, start))
    if many is None:
        raise CanNot()
    return many


def _waits_told(rules, sense, ask):
    """The waits of ask; None if it does not end."""
    web, many = web_from(rules, sense, [ask]), {}
    for own in ending_order(web):
        many[own] = max([many[asked] for call, asked in web[own]], default=0)
        if web[own] and leaf_of(rules, sense, own)[0] != "call":
            many[own] += 1
    return many.get(ask)


def led_on(program, meaning, name, start):
    """The tuple of ASKS from (name, start) on, each asked for by the bare call that is the leaf of the one ahead."""
    rules, sense = asked_of(program, meaning, name, start)
    row, ask = [], (name, start)
    met = set()
    while ask not in met:
        met.add(ask)
        row.append(ask)
        leaf = leaf_of(rules, sense, ask)
        if leaf[0] != "call":
            return tuple(row)
        ask = (leaf[1], thing_at(sense, ask[1], leaf[2]))
    raise CanNot()


def _calls_out(rule):
    """The list of the triples (number, call, many): each call of the leaf of this number, 1 if it waits, else 0."""
    return [
        (number, call, 0 if leaf[0] == "call" else 1)
        for number, leaf in enumerate(leaves_of(rule)) for call in calls_in(leaf)]


def most_waits(program):
    """The least bound of the waits of the ASKS of NAME 0 that end, FOR ALL MEANINGS; None if there is none."""
    rules = frozen(program)
    homes, names, bare = homes_of(rules), reached(rules), bare_names(rules)
    if not all(name in bare for name in names):
        return None
    most = {}
    for home in components(rules):
        most[home] = max([
            many + most[homes[call[0]]] for name in home for number, call, many in _calls_out(rules[name])
            if call[0] not in home], default=0)
    return most[homes[0]]


def waiting_meaning(program, many):
    """A pair (MEANING, thing) such that the ASK of NAME 0 and this thing ends and has waits of many or more.

    The things are WORDS. By its TESTS the calls go along a way on which so many wait; what they come to beside it
    is the last thing, at which each NAME goes to the leaf that it ends by.
    """
    rules = frozen(program)
    settled, at = [], ()
    for name, number, word in _waiting_way(rules, many):
        settled.append((rules[name], number, at))
        at = at + word
    ending = ending_sides(rules, ends_by(rules))
    return meaning_along(beginnings([at]), tables_used(rules), ending, settled), 0


def _waiting_way(rules, many):
    """The tuple of the triples (NAME, place of its leaf, WORD of the call), as few as can be, by which so many calls
    from NAME 0 on wait."""
    ways, row = {(0, 0): ()}, [(0, 0)]
    while row:
        later = []
        for name, waited in row:
            for number, call, more in _calls_out(rules[name]):
                then = (call[0], waited + more)
                if then not in ways and then[1] <= many:
                    ways[then] = ways[(name, waited)] + ((name, number, call[1]),)
                    later.append(then)
        row = later
    found = [ways[then] for then in ways if then[1] == many]
    if not found:
        raise CanNot()
    return found[0]


def is_waiting(program, many, thing):
    """True if thing is such a pair."""
    rules = frozen(program)
    if not is_tuple(thing, 2) or not is_meaning(thing[0]) or not is_natural(thing[1]):
        return False
    meaning, start = thing
    if not is_for(meaning, rules) or start >= meaning[0]:
        return False
    waited = _waits_told(rules, meaning, (0, start))
    return waited is not None and waited >= many


def bare_loops(program):
    """LOOPS without FLAGS that do program, all calls of whose NAMES to which 0 comes are bare."""
    rules = frozen(program)
    names = reached(rules)
    if any([many for name in names for number, call, many in _calls_out(rules[name])]):
        raise Unfit()
    sheet = Sheet(rules)
    cells, _ = sheet.frame(names, most_parts(sheet, names), 0)
    rooms = {name: sheet.room() for name in names}
    for name in names:
        sheet.fill(rooms[name], _bare_code(sheet, name, cells, rooms))
    return sheet.loops(rooms[0])


def _bare_code(sheet, name, cells, rooms):
    """The block from which the RULE of name is asked of the thing in the first of cells; rooms has the blocks of
    NAMES."""
    def onward(number):
        leaf = sheet.leaves[name][number]
        if leaf[0] == "call":
            return sheet.block(steps_deeds(cells[0], leaf[2]), ("go", rooms[leaf[1]]))
        stop = sheet.block((), ("stop", cells[0]))
        return term_code(sheet, leaf, (cells[0], cells[1:], {}), cells[0], stop, None)
    return rule_code(sheet, name, cells[0], onward)
