"""What the desk answers with: times, events, places and rows written as texts."""

from manyclocks.hearing import heard
from manyclocks.lines import line
from manyclocks.showing import show_fraction, show_numbers
from manyclocks.walks import walked
from manyclocks.written import written


def show_time(time):
    """A time, - for None."""
    return "-" if time is None else show_fraction(time)


def show_pitches(pitches):
    """Pitches, - for none."""
    return show_numbers(pitches, ".") if pitches else "-"


def show_list(texts):
    """Texts parted by semicolons, - where there are none."""
    return "; ".join(texts) if texts else "-"


def show_event(event):
    """An event of a player."""
    time, word, name, voice, pitches = event
    return f"{show_time(time)} {word} {name} {voice} {show_pitches(pitches)}"


def show_events(events):
    """A player's events."""
    return show_list([show_event(event) for event in events])


def show_place(found):
    """Where a part is: (number of the bar, place in it), or None."""
    return "-" if found is None else f"{found[0]} {show_fraction(found[1])}"


def show_comer(comer):
    """Who comes to a meeting, in which bar and when."""
    name, number, time = comer
    return f"{name} {number} {show_time(time)}"


def show_parting(found):
    """The first meeting where parts part, or that all meet."""
    if found is None:
        return "all"
    word, count, one, other = found
    return f"{word} {count} {show_comer(one)} {show_comer(other)}"


def show_reasons(reasons):
    """Why parts stand, by their names."""
    told = []
    for name in sorted(reasons):
        word, names = reasons[name]
        told.append(" ".join([name, word, *names]))
    return show_list(told)


def show_row(row):
    """The row of a voice."""
    told = [f"{show_time(begin)} {show_time(end)} {show_pitches(pitches)}" for begin, end, pitches in row]
    return show_list(told)


def show_way(way):
    """The way of a bar."""
    return show_numbers(way, ".")


def walk_answer(score, name):
    """The ways of the bars that a part walks, - where there are none."""
    entries = line(score, name)
    ways = [show_way(entries[at][2]) for at in walked(entries)]
    return " ".join(ways) if ways else "-"


def hear_answer(score, name, row):
    """The cost of a heard row, and the ways of the bars of the things for which it is taken, none behind itself."""
    cost, way, table = heard(score, name, row)
    things = written(score, name)
    ways = []
    for step in way:
        if step[0] == "hear":
            bar_way = things[step[2]][2]
            if ways[-1:] != [bar_way]:
                ways.append(bar_way)
    return " ".join([str(cost)] + [show_way(bar_way) for bar_way in ways])
