"""Sweeps along a row: what is asked at its places, MARKS of what is asked further on, HISTORIES [13].

A line, in here, is a pair of the ROWS of a COMPONENT and of a dict with, for each of its NAMES, the tuple with,
for each leaf, the set of its own calls.
"""

from unwound.common import frozen, is_natural, is_tuple
from unwound.errors import CanNot, TooMuch
from unwound.meanings import asked_of, leaf_number, thing_at
from unwound.programs import own_table
from unwound.rows import rows_of
from unwound.words import piece_of

MOST_MARKS = 200


def _line(rules, name):
    """The line of the COMPONENT of name, behind the checks of rows_of."""
    rows = rows_of(rules, name)
    table = own_table(rules)
    return rows, {own: table[own] for own in rows[0]}


def _reach(line):
    """The most STEPS that the WORD of an own call has."""
    return max([len(word) for leaves in line[1].values() for calls in leaves for called, word in calls])


def reach(program, name):
    """The most STEPS that the WORD of an own call of the COMPONENT of name has."""
    return _reach(_line(frozen(program), name))


def first_marks(program, name):
    """The MARKS of place 0."""
    return _first(_line(frozen(program), name), name)


def _first(line, name):
    """The MARKS of place 0 if name is asked there."""
    return ((name,),) + ((),) * (_reach(line) - 1)


def _calls_with(line, taken, name):
    """The own calls of the leaf that name takes."""
    return line[1][name][taken[line[0][0].index(name)]]


def _asked(line, marks, taken):
    """The set of the NAMES asked at a place with these MARKS."""
    asked, waiting = {name: True for name in marks[0]}, list(marks[0])
    while waiting:
        for called, word in _calls_with(line, taken, waiting.pop()):
            if not word and called not in asked:
                asked[called] = True
                waiting.append(called)
    return tuple(sorted(asked))


def _next(line, marks, taken):
    """The MARKS of the place behind one with these."""
    ahead = [list(names) for names in marks[1:] + ((),)]
    for name in _asked(line, marks, taken):
        for called, word in _calls_with(line, taken, name):
            if word:
                ahead[len(word) - 1].append(called)
    return tuple([tuple(sorted(set(names))) for names in ahead])


def asked_with(program, name, marks, taken):
    """The set of the NAMES asked at a place with these MARKS, if they take these leaves there."""
    return _asked(_line(frozen(program), name), frozen(marks), frozen(taken))


def next_marks(program, name, marks, taken):
    """The MARKS of the next place."""
    return _next(_line(frozen(program), name), frozen(marks), frozen(taken))


def marks_row(program, name, row):
    """The list of the MARKS of the places 0, 1, .., the last ones behind row."""
    line = _line(frozen(program), name)
    return _row(line, name, frozen(row))


def _row(line, name, row):
    """The same."""
    found = [_first(line, name)]
    for taken in row:
        found.append(_next(line, found[-1], taken))
    return found


def _all_taken(line, marks):
    """The list, ascending, of TAKEN with which all that can come behind MARKS comes.

    Of leaves with the same own calls the first one alone is taken, by NAMES that are not asked the first of all.
    """
    found, waiting = [], [{}]
    while waiting:
        settled = waiting.pop()
        name = _unsettled(line, marks, settled)
        if name is None:
            found.append(tuple([settled.get(own, 0) for own in line[0][0]]))
            continue
        leaves = line[1][name]
        for number, calls in enumerate(leaves):
            if calls not in leaves[:number]:
                waiting.append({**settled, name: number})
    return sorted(found)


def _unsettled(line, marks, settled):
    """A NAME asked at a place with these MARKS whose leaf is not settled; None if there is none."""
    at_once = [called for name in settled for called, word in line[1][name][settled[name]] if not word]
    unsettled = [name for name in list(marks[0]) + at_once if name not in settled]
    return unsettled[0] if unsettled else None


def _ways(line, name):
    """For each of the MARKS that come: the HISTORY with the fewest TAKEN behind which they do, of these the least.

    Those of one length are found in their order: so the first one for MARKS is the least.
    """
    first = _first(line, name)
    ways, row = {first: ()}, [first]
    while row:
        later = []
        for marks in row:
            for taken in _all_taken(line, marks):
                then = _next(line, marks, taken)
                if then not in ways:
                    ways[then] = ways[marks] + (taken,)
                    later.append(then)
            if len(ways) > MOST_MARKS:
                raise TooMuch()
        row = later
    return ways


def marks_that_come(program, name):
    """The list, ascending, of all MARKS that come behind some HISTORY."""
    return sorted(_ways(_line(frozen(program), name), name))


def most_marked(program, name):
    """The most NAMES that the sets of MARKS that come have, counted set by set."""
    return max([sum([len(names) for names in marks]) for marks in marks_that_come(program, name)])


def way_to_marks(program, name, marks):
    """Of the HISTORIES behind which marks come that with the fewest TAKEN, of these the least."""
    way = _ways(_line(frozen(program), name), name).get(frozen(marks))
    if way is None:
        raise CanNot()
    return way


def is_way_to_marks(program, name, marks, thing):
    """True if thing is a HISTORY behind which marks come."""
    line = _line(frozen(program), name)
    if not isinstance(thing, tuple) or not all(_is_taken(line, taken) for taken in thing):
        return False
    return _row(line, name, thing)[-1] == frozen(marks)


def _is_taken(line, thing):
    """True if thing is TAKEN."""
    names = line[0][0]
    if not is_tuple(thing, len(names)):
        return False
    return all(is_natural(leaf) and leaf < len(line[1][name]) for name, leaf in zip(names, thing))


def _along(program, meaning, name, start):
    """The triple of program and meaning, with tuples for lists, and the line, behind the checks of [13]."""
    rules, sense = asked_of(program, meaning, name, start)
    return rules, sense, _line(rules, name)


def _taken_at(rules, sense, line, x):
    """The TAKEN by the TESTS of the thing x."""
    return tuple([leaf_number(rules[name], sense, x) for name in line[0][0]])


def _step_at(line, name, place):
    """The WORD, of one STEP, that leads on from this place, name being asked at place 0."""
    names, word, places = line[0]
    return piece_of(word, places[names.index(name)] + place, 1)


def history_along(program, meaning, name, start, many):
    """The HISTORY of many places that the RULES have by the TESTS of the things there."""
    rules, sense, line = _along(program, meaning, name, start)
    row, x = [], start
    for place in range(many):
        row.append(_taken_at(rules, sense, line, x))
        x = thing_at(sense, x, _step_at(line, name, place))
    return tuple(row)


def _swept(program, meaning, name, start):
    """The list of the pairs (MARKS, NAMES asked) of the places from 0 on, to the first one with no MARKS."""
    rules, sense, line = _along(program, meaning, name, start)
    marks, x, swept = _first(line, name), start, []
    met = set()
    while any(marks):
        # MARKS tell where on the row of ROWS they are.
        if (marks, x) in met:
            raise CanNot()
        met.add((marks, x))
        taken = _taken_at(rules, sense, line, x)
        x = thing_at(sense, x, _step_at(line, name, len(swept)))
        swept.append((marks, _asked(line, marks, taken)))
        marks = _next(line, marks, taken)
    return swept + [(marks, ())]


def sweep(program, meaning, name, start):
    """The list of the MARKS of the places from 0 on, to the first ones whose sets are all ()."""
    return [marks for marks, asked in _swept(program, meaning, name, start)]


def places_asked(program, meaning, name, start):
    """The list of the sets of the NAMES asked at the places from 0 to the last one at which some is."""
    return [asked for marks, asked in _swept(program, meaning, name, start)[:-1]]


def last_place(program, meaning, name, start):
    """The number of the last place at which a NAME is asked."""
    return len(places_asked(program, meaning, name, start)) - 1
