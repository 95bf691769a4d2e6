"""The text of a reader: one line of text for each of its lines."""

from splitalike.errors import BadText
from splitalike.readers import Reader, is_name

FIGURES = "0123456789"
MOST_FIGURES = 9

# What stands behind each word. The ways of a case line stand before what is told here.
FORMS = {
    "case": ("else", "name"),
    "take": ("name",),
    "rest": ("integer", "name"),
    "cap": ("integer", "name"),
    "jump": ("integer", "name"),
    "set": ("integer", "name"),
    "upto": ("integer", "name", "else", "name"),
    "skip": ("integer", "name"),
    "cut": (),
    "refuse": (),
}


def written(reader):
    """The text of a reader."""
    return "\n".join([f"{name}: {_written_line(line)}" for name, line in reader.lines])


def read_reader(text):
    """The reader that has this text."""
    lines = []
    # Only a line feed ends a line: splitlines would take other signs, too.
    for number, row in enumerate(text.split("\n"), start=1):
        pair = _read_pair(row)
        if pair is None:
            raise BadText(number)
        lines.append(pair)
    return Reader(lines)


def _written_line(line):
    word = line[0]
    entries = list(line)
    if word == "case":
        ways = [entry for way in line[1] for entry in way]
        entries = [word, *ways, "else", line[2]]
    elif word == "upto":
        entries = [*line[:3], "else", line[3]]
    return " ".join([str(entry) for entry in entries])


def _read_pair(row):
    """The name and the line that a row of text tells, or None if it has no valid form."""
    label, *words = row.split(" ")
    if not label.endswith(":") or not is_name(label[:-1]) or len(words) == 0:
        return None
    line = _read_line(words[0], words[1:])
    if line is None:
        return None
    return (label[:-1], line)


def _read_line(word, texts):
    """The line with this word and these texts behind it, or None if it has no valid form."""
    if word not in FORMS:
        return None
    form = FORMS[word]
    if word == "case":
        # Places tell what a text is, since a name may be any word, "else" among them.
        form = ("integer", "name") * ((len(texts) - len(form)) // 2) + form
    if len(texts) != len(form) or not all([_fits(text, kind) for text, kind in zip(texts, form)]):
        return None
    entries = [_entry(text, kind) for text, kind in zip(texts, form) if kind != "else"]
    if word == "case":
        ways = list(zip(entries[:-1:2], entries[1:-1:2]))
        return (word, ways, entries[-1])
    return (word, *entries)


def _fits(text, kind):
    """Whether a text is of a kind that a form tells."""
    if kind == "integer":
        return _is_integer(text)
    if kind == "name":
        return is_name(text)
    return text == "else"


def _entry(text, kind):
    return int(text) if kind == "integer" else text


def _is_integer(text):
    figures = text.removeprefix("-")
    if not 1 <= len(figures) <= MOST_FIGURES or not all([figure in FIGURES for figure in figures]):
        return False
    return text == "0" or figures[0] != "0"
