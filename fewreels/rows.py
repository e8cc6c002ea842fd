"""Stage 1: rows, rows merged, and the order in which their things are taken."""

from fewreels.wholes import is_place, is_whole


def is_row(thing):
    """Whether it is a sorted list or tuple of whole numbers, of anything."""
    if not isinstance(thing, (list, tuple)):
        return False
    if not all([is_whole(each) for each in thing]):
        return False
    return all([ahead <= behind for ahead, behind in zip(thing, thing[1:])])


def merged_row(rows):
    """One row of all things of the rows."""
    return sorted([thing for row in rows for thing in row])


def merge_order(rows):
    """The order that always takes the least thing, of alike ones the first row's."""
    # Each row is sorted, so things by size, then by row, are taken off the rows' fronts.
    taken = sorted([(thing, number) for number, row in enumerate(rows) for thing in row])
    return [number for thing, number in taken]


def order_holds(rows, order):
    """Whether the order takes each row up, and no thing behind a greater one."""
    many = [0 for row in rows]
    taken = []
    for number in order:
        if not is_place(number, len(rows)) or many[number] == len(rows[number]):
            return False
        taken.append(rows[number][many[number]])
        many[number] += 1
    return many == [len(row) for row in rows] and is_row(taken)
