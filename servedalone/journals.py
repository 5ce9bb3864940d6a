"""Journals: deeds written down line by line, so that after a fall they can be read and done again."""

from servedalone.asks import Ask


def write_deeds(deeds):
    """A line for each deed."""
    return "".join([value_text(deed) + "\n" for deed in deeds])


def value_text(value):
    """The text of a name, an integer, an ask, or a row of such and other rows."""
    if isinstance(value, str):
        return value
    if isinstance(value, int):
        return str(value)
    if isinstance(value, Ask):
        return value_text((value.prompt, value.most, value.stops, value.tape))
    return "(" + ",".join([value_text(part) for part in value]) + ")"


def read_deeds(text):
    """The deeds of the lines that have their line feed."""
    return tuple([read_deed(line) for line in text.split("\n")[:-1]])


def read_deed(line):
    """The deed that stands in the line."""
    deed = read_row(line)
    if deed[0] == "ask":
        prompt, most, stops, tape = deed[1]
        return "ask", Ask(prompt, most, stops=stops, tape=tape)
    return deed


def read_row(line):
    """The tuple whose text the line is."""
    rows = [[]]
    word = ""
    for sign in line:
        if sign in "(),":
            if word != "":
                rows[-1].append(read_word(word))
            word = ""
        else:
            word += sign
        if sign == "(":
            rows.append([])
        if sign == ")":
            row = tuple(rows.pop())
            rows[-1].append(row)
    return rows[0][0]


def read_word(word):
    """The integer, or the name."""
    if word[0] in "-0123456789":
        return int(word)
    return word
