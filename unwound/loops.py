"""LOOPS: what they are, their runs by a MEANING, faults that may come, what of them is needed [11].

While a run goes on, a cell holds None for nothing, or a triple (VALUE, parts, "make" within). The VALUE is
None if it is too great to be told: what is made of such a one is too great, too. The parts and "make" of
TOO_GREAT are one more than what can be told may have.
"""

from unwound.common import frozen, is_natural, is_tuple, require_place
from unwound.errors import CanNot, TooMuch, Unfit
from unwound.meanings import MOST_MAKINGS_WITHIN, MOST_PARTS

MOST_BLOCKS_DONE = 20000
MOST_SIGHTS = 4000
TOO_GREAT = (None, 2001, 46)


def is_loops(thing):
    """True if thing is LOOPS."""
    if not is_tuple(thing, 3) or not is_natural(thing[0]) or not is_natural(thing[1]) or thing[0] == 0:
        return False
    blocks = thing[2]
    if not isinstance(blocks, tuple) or not blocks:
        return False
    return all(_is_block(thing, block) for block in blocks)


def _is_block(loops, thing):
    """True if thing can be a block of loops."""
    if not is_tuple(thing, 2) or not isinstance(thing[0], tuple):
        return False
    return all(_is_deed(loops, deed) for deed in thing[0]) and _is_end(loops, thing[1])


def _below(thing, many):
    """True if thing is a number below many."""
    return is_natural(thing) and thing < many


def _is_deed(loops, thing):
    """True if thing can be a deed of loops."""
    cells, flags = loops[0], loops[1]
    if not isinstance(thing, tuple) or len(thing) not in (3, 4):
        return False
    if thing[0] == "make":
        if len(thing) == 3 or not _below(thing[1], cells) or not is_natural(thing[2]):
            return False
        taken = thing[3]
        return isinstance(taken, tuple) and len(taken) > 0 and all(_below(cell, cells) for cell in taken)
    if len(thing) == 4:
        return False
    if thing[0] == "flag":
        return _below(thing[1], flags) and isinstance(thing[2], bool)
    if thing[0] == "step":
        return _below(thing[1], cells) and is_natural(thing[2])
    return thing[0] == "copy" and _below(thing[1], cells) and _below(thing[2], cells)


def _is_end(loops, thing):
    """True if thing can be an end of a block of loops."""
    cells, flags, blocks = loops
    if is_tuple(thing, 2):
        return thing[0] == "go" and _below(thing[1], len(blocks)) or thing[0] == "stop" and _below(thing[1], cells)
    if is_tuple(thing, 4):
        if thing[0] != "seen" or not _below(thing[1], flags):
            return False
    elif not is_tuple(thing, 5) or thing[0] != "ask" or not is_natural(thing[1]) or not _below(thing[2], cells):
        return False
    return _below(thing[-2], len(blocks)) and _below(thing[-1], len(blocks))


def _fitting(loops, meaning, start):
    """The pair (loops, meaning), with tuples for lists, behind the checks of [11]."""
    own, sense = frozen(loops), frozen(meaning)
    if not is_for_loops(sense, own):
        raise Unfit()
    require_place(start, sense[0])
    return own, sense


def is_for_loops(meaning, loops):
    """True if meaning has a table for each STEP and each TEST that loops name."""
    steps = [deed[2] for deeds, end in loops[2] for deed in deeds if deed[0] == "step"]
    tests = [end[1] for deeds, end in loops[2] if end[0] == "ask"]
    return max(steps, default=-1) < len(meaning[1]) and max(tests, default=-1) < len(meaning[2])


def _thing(x):
    """What a cell holds if the thing x lies in it."""
    return ("thing", x), 1, 0


def _made(maker, parts):
    """What a cell holds if it is what maker makes of what other cells hold."""
    many = 1 + sum([part[1] for part in parts])
    within = 1 + max([part[2] for part in parts])
    if many > MOST_PARTS or within > MOST_MAKINGS_WITHIN:
        return TOO_GREAT
    return ("make", maker, tuple([part[0] for part in parts])), many, within


def _is_thing(content):
    """True if a cell that holds content holds a thing."""
    return content is not None and content[2] == 0


def _first_stand(loops, start):
    """The list [block, contents, ups] with which a run begins; contents and ups are lists."""
    return [0, [_thing(start)] + [None] * (loops[0] - 1), [False] * loops[1]]


def _go_on(loops, meaning, stand):
    """Does the block that comes next; stand is changed so that it is the one behind it.

    Returns None, or ("fault", block, place), or ("stop", content): then stand is done with.
    """
    block, contents, ups = stand
    end = loops[2][block][1]
    place = _fault_place(loops[2][block], meaning, contents, ups)
    if place is not None:
        return "fault", block, place
    if end[0] == "stop":
        return "stop", contents[end[1]]
    stand[0] = end[1]
    if end[0] == "ask":
        stand[0] = end[3] if meaning[2][end[1]][contents[end[2]][0][1]] else end[4]
    elif end[0] == "seen":
        stand[0] = _seen_way(end, ups)
    return None


def _seen_way(end, ups):
    """The block to which the end ("seen", flag, yes, no) leads."""
    return end[2] if ups[end[1]] else end[3]


def _fault_place(block, meaning, contents, ups):
    """Does the deeds of block, which change contents and ups; the place of its first fault, or None."""
    deeds, end = block
    for place, deed in enumerate(deeds):
        if not _does(deed, meaning, contents, ups):
            return place
    if end[0] == "ask" and not _is_thing(contents[end[2]]) or end[0] == "stop" and contents[end[1]] is None:
        return len(deeds)
    return None


def _does(deed, meaning, contents, ups):
    """Does deed, which changes contents or ups; False if it is a fault. Without a MEANING a thing stays."""
    if deed[0] == "flag":
        ups[deed[1]] = deed[2]
        return True
    if deed[0] == "step":
        content = contents[deed[1]]
        if not _is_thing(content):
            return False
        if meaning is not None:
            contents[deed[1]] = _thing(meaning[1][deed[2]][content[0][1]])
        return True
    needed = deed[3] if deed[0] == "make" else (deed[2],)
    taken = [contents[cell] for cell in needed]
    if None in taken:
        return False
    contents[deed[1]] = _made(deed[2], taken) if deed[0] == "make" else taken[0]
    return True


def _written(contents):
    """The tuple of the VALUES that lie in the cells, None for nothing."""
    if TOO_GREAT in contents:
        raise TooMuch()
    return tuple([None if content is None else content[0] for content in contents])


def stands_of(loops, meaning, start, many):
    """The list of the STANDS ahead of the first blocks that the run from start begins, at most many."""
    own, sense = _fitting(loops, meaning, start)
    stand, stands, ended = _first_stand(own, start), [], None
    while ended is None and len(stands) < many:
        stands.append((stand[0], list(stand[1]), tuple(stand[2])))
        ended = _go_on(own, sense, stand)
    return [(block, _written(contents), ups) for block, contents, ups in stands]


def _sight(stand):
    """The sight of stand, as what may be a key: -1 for what is made, None for nothing."""
    contents = [
        content if content is None else content[0][1] if content[2] == 0 else -1
        for content in stand[1]]
    return stand[0], tuple(contents), tuple(stand[2])


def _ended(loops, meaning, start):
    """The end of the run from start: ("stop", content), or what end_of tells."""
    stand, numbers = _first_stand(loops, start), {}
    while True:
        sight, done = _sight(stand), len(numbers)
        if sight in numbers:
            return "never", numbers[sight], done - numbers[sight]
        if done == MOST_BLOCKS_DONE:
            raise TooMuch()
        numbers[sight] = done
        ended = _go_on(loops, meaning, stand)
        if ended is not None:
            return ended


def _told(ended):
    """The pair ("stop", VALUE) for ("stop", content)."""
    return "stop", _written([ended[1]])[0]


def end_of(loops, meaning, start):
    """How the run from start ends: ("stop", value), ("fault", block, place) or ("never", many, length)."""
    own, sense = _fitting(loops, meaning, start)
    ended = _ended(own, sense, start)
    return _told(ended) if ended[0] == "stop" else ended


def run(loops, meaning, start):
    """The VALUE with which the run from start stops."""
    own, sense = _fitting(loops, meaning, start)
    ended = _ended(own, sense, start)
    if ended[0] != "stop":
        raise CanNot()
    return _told(ended)[1]


def work(loops, meaning, start):
    """How many blocks, STEPS, makings and asks of a TEST the run from start does until it stops."""
    own, sense = _fitting(loops, meaning, start)
    if _ended(own, sense, start)[0] != "stop":
        raise CanNot()
    stand, ended, blocks, did = _first_stand(own, start), None, 0, {"step": 0, "make": 0, "ask": 0}
    while ended is None:
        deeds, end = own[2][stand[0]]
        blocks += 1
        for done in deeds + (end,):
            if done[0] in did:
                did[done[0]] += 1
        ended = _go_on(own, sense, stand)
    return blocks, did["step"], did["make"], did["ask"]


def ways_on(end):
    """The blocks to which end may lead."""
    if end[0] == "stop":
        return ()
    return end[1:] if end[0] == "go" else end[-2:]


def may_fault(loops):
    """The set of the pairs (block, place) of faults that come if each ask of a TEST goes either way."""
    own = frozen(loops)
    faults = set()
    first = _sight(_first_stand(own, 0))
    met, waiting = {first: True}, [first]
    while waiting:
        block, contents, ups = _stand_in(waiting.pop())
        place = _fault_place(own[2][block], None, contents, ups)
        if place is not None:
            faults.add((block, place))
            continue
        end = own[2][block][1]
        onward = (_seen_way(end, ups),) if end[0] == "seen" else ways_on(end)
        for after in onward:
            sight = _sight((after, contents, ups))
            if sight not in met:
                met[sight] = True
                waiting.append(sight)
        if len(met) > MOST_SIGHTS:
            raise TooMuch()
    return tuple(sorted(faults))


def _stand_in(sight):
    """A triple (block, contents, ups) that has this sight; whatever is made is too great there."""
    block, contents, ups = sight
    held = [x if x is None else TOO_GREAT if x < 0 else _thing(x) for x in contents]
    return block, held, list(ups)


def tidied(loops):
    """The LOOPS with what is come to from block 0 alone, all numbered anew."""
    own = frozen(loops)
    met, waiting = {0: True}, [0]
    while waiting:
        for after in ways_on(own[2][waiting.pop()][1]):
            if after not in met:
                met[after] = True
                waiting.append(after)
    kept = [own[2][block] for block in sorted(met)]
    lines = [line for deeds, end in kept for line in deeds + (end,)]
    cells = _numbers([0] + [cell for line in lines for cell in _cells_named(line)])
    flags = _numbers([line[1] for line in lines if line[0] in ("flag", "seen")])
    names = (cells, flags, _numbers(list(met)))
    blocks = [(tuple([_deed_anew(deed, names) for deed in deeds]), _end_anew(end, names)) for deeds, end in kept]
    return len(cells), len(flags), tuple(blocks)


def _numbers(named):
    """For each of what is named: its place among them in ascending order."""
    return {own: number for number, own in enumerate(sorted(set(named)))}


def _cells_named(line):
    """The cells that a deed, or an end, names."""
    if line[0] == "make":
        return line[1:2] + line[3]
    if line[0] == "copy":
        return line[1:]
    if line[0] in ("step", "stop"):
        return line[1:2]
    return line[2:3] if line[0] == "ask" else ()


def _deed_anew(deed, names):
    """deed with the numbers that names, dicts of cells, flags and blocks, have for it."""
    cells, flags = names[:2]
    if deed[0] == "flag":
        return "flag", flags[deed[1]], deed[2]
    if deed[0] == "step":
        return "step", cells[deed[1]], deed[2]
    if deed[0] == "copy":
        return "copy", cells[deed[1]], cells[deed[2]]
    return "make", cells[deed[1]], deed[2], tuple([cells[cell] for cell in deed[3]])


def _end_anew(end, names):
    """end with the numbers that names have for it."""
    cells, flags, blocks = names
    onward = tuple([blocks[block] for block in ways_on(end)])
    if end[0] == "ask":
        return ("ask", end[1], cells[end[2]]) + onward
    if end[0] == "seen":
        return ("seen", flags[end[1]]) + onward
    return ("stop", cells[end[1]]) if end[0] == "stop" else ("go",) + onward
