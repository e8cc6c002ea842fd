"""Stage 2: a store of little room that writes the fewest rows."""

from fewreels.errors import NoRoom
from fewreels.wholes import is_place, is_whole

MOST_ROOM = 60


def check_room(room):
    """Refuse what is no room, of anything."""
    # The text doesn't show the room: a far number may have too many figures to be written.
    if not is_whole(room) or not 1 <= room <= MOST_ROOM:
        raise NoRoom(f"the room of a store is a whole number from 1 to {MOST_ROOM}")


def next_out(things, held, writing):
    """The place, of those held, whose thing goes out behind the writing so far."""
    fitting = [place for place in held if not writing or things[place] >= things[writing[-1]]]
    least = min([(things[place], place) for place in fitting or held])
    return least[1]


def writing_of(things, room):
    """The writing of the fewest rows."""
    check_room(room)
    held = [place for place in range(len(things)) if place < room]
    writing = []
    while held:
        place = next_out(things, held, writing)
        held.remove(place)
        writing.append(place)
        coming = len(writing) + room - 1
        if coming < len(things):
            held.append(coming)
    return writing


def writing_holds(things, room, writing):
    """Whether each place stands once in the writing and no more than the room is ever held."""
    check_room(room)
    if not all([is_place(place, len(things)) for place in writing]):
        return False
    if sorted(writing) != list(range(len(things))):
        return False
    return all([place < at + room for at, place in enumerate(writing)])


def rows_written(things, writing):
    """The rows that the writing makes of the things."""
    rows = []
    for place in writing:
        thing = things[place]
        if not rows or thing < rows[-1][-1]:
            rows.append([])
        rows[-1].append(thing)
    return rows


def fewest_rows(things, room):
    """How few rows the store can make of the things."""
    return len(rows_written(things, writing_of(things, room)))


def held_back(things, room):
    """None where one row does; else a place and the places ahead of it that bar one row."""
    check_room(room)
    for place, thing in enumerate(things):
        greater = [ahead for ahead in range(place) if things[ahead] > thing]
        if len(greater) >= room:
            return (place, greater[:room])
    return None
