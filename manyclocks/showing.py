"""Showing: scores written as texts."""


def show_fraction(fraction):
    """A fraction as it is written: a bottom of 1 is left out."""
    if fraction[1] == 1:
        return str(fraction[0])
    return f"{fraction[0]}/{fraction[1]}"


def show_numbers(numbers, sign):
    """Whole numbers, parted by a sign."""
    return sign.join([str(number) for number in numbers])


def show_pace(mark):
    """A pace or a lean."""
    if mark[0] == "pace":
        return f"@{show_fraction(mark[1])}"
    return f"@{show_fraction(mark[1])}>{show_fraction(mark[2])}*{mark[3]}"


def show_tone(tone):
    """A tone."""
    word, pitches, length, tied, held = tone
    told = f"{show_numbers(pitches, '.')}:{show_fraction(length)}"
    if tied:
        told += "~"
    if held:
        told += "^"
    return told


def show_item(item):
    """An item; of a group all that is in it."""
    if item[0] == "tone":
        return show_tone(item)
    if item[0] == "rest":
        return f"-:{show_fraction(item[1])}"
    if item[0] == "group":
        return f"({item[1]}/{item[2]} {show_items(item[3])} )"
    if item[0] == "call":
        return f"!{item[1]}"
    if item[0] == "wait":
        return f"?{item[1]}.{item[2]}"
    if item[0] == "meet":
        return f"={item[1]}"
    return show_pace(item)


def show_items(items):
    """A row of items."""
    return " ".join([show_item(item) for item in items])


def bar_line(bar):
    """The line of a bar."""
    voices = " | ".join([show_items(voice) for voice in bar[2]])
    return f"bar {show_fraction(bar[1])} : {voices}"


def repeat_lines(repeat):
    """The lines of a repeat, with those of its things and endings."""
    many, things, endings = repeat[1:]
    told = [f"repeat {many}"] + things_lines(things)
    for numbers, behind in endings:
        told.append(f"ending {show_numbers(numbers, ' ')}")
        told.extend(things_lines(behind))
    return told + ["end"]


def thing_lines(thing):
    """The lines of a thing."""
    if thing[0] == "bar":
        return [bar_line(thing)]
    if thing[0] == "sign":
        return [f"sign {thing[1]}"]
    if thing[0] == "turn":
        goals = ["-" if goal is None else goal for goal in thing[1]]
        return [" ".join(["turn", *goals])]
    if thing[0] == "use":
        return [f"use {thing[1]} {thing[2]} {show_fraction(thing[3])}"]
    return repeat_lines(thing)


def things_lines(things):
    """The lines of a row of things."""
    told = []
    for thing in things:
        told.extend(thing_lines(thing))
    return told


def hung_line(word, row):
    """The line with which a clock or a part begins: its name, what it hangs on and from where."""
    on = "time" if row[1] is None else row[1]
    return f"{word} {row[0]} on {on} from {show_fraction(row[2])}"


def clock_line(clock):
    """The line of a clock."""
    marks = [f" at {show_fraction(place)} {show_pace(mark)}" for place, mark in clock[3]]
    return hung_line("clock", clock) + "".join(marks)


def show_score(score):
    """The text of a score."""
    clocks, phrases, parts = score
    told = [clock_line(clock) for clock in clocks]
    for name, things in phrases:
        told.extend([f"phrase {name}"] + things_lines(things) + ["end"])
    for part in parts:
        told.extend([hung_line("part", part)] + things_lines(part[3]) + ["end"])
    return "\n".join(told)
