"""LOOPS for PROGRAMS, put together from the code for their COMPONENTS."""

from unwound.pathcode import PathCode
from unwound.programs import kind_in
from unwound.rowcode import RowCode
from unwound.sheets import Sheet, most_parts, rule_code, term_code


def loops_for(rules):
    """LOOPS that do the PROGRAM rules, if the wide COMPONENTS that 0 comes to are plain and have ROWS."""
    sheet = Sheet(rules)
    # The frame of the COMPONENT of 0 is taken first: its thing lies in cell 0.
    return sheet.loops(answer_code(sheet, 0, 0, sheet.block((), ("stop", 0)))[1])


def row_loops_for(rules):
    """LOOPS that do the PROGRAM rules, which goes along one row."""
    sheet = Sheet(rules)
    code = RowCode(sheet, 0, 0, sheet.block((), ("stop", 0)), answer_code)
    return sheet.loops(code.written()[1])


def answer_code(sheet, name, target, after):
    """Code by which target comes to hold the answer of name, and that goes on at the block after: the pair of
    the cell in which the thing is to lie and of the first block."""
    kind = kind_in(sheet.table, sheet.homes[name])
    if kind == "path":
        return PathCode(sheet, name, target, after, answer_code).written()
    if kind == "wide":
        return RowCode(sheet, name, target, after, answer_code).written()
    return _still_code(sheet, name, target, after)


def _still_code(sheet, name, target, after):
    """The same, for a NAME that is still."""
    cells, _ = sheet.frame(sheet.homes[name], 1 + most_parts(sheet, sheet.homes[name]), 0)
    spot = (cells[0], cells[1:], {})
    return cells[0], rule_code(
        sheet, name, cells[0],
        lambda number: term_code(sheet, sheet.leaves[name][number], spot, target, after, answer_code))
