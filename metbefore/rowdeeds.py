"""The deeds of a log's rows."""


def deeds_of(row):
    """The deeds, without signs, that a row is of: two of a "greet", else one."""
    if row[0] == "greet":
        return [("ask", *some[:2], (), some[2]) for some in asks_of(row)]
    if row[0] == "meet":
        return [row[:2]]
    return [row[:5]] if row[0] == "ask" else [row]


def asks_of(row):
    """Of each "ask" of a row the door, the guest, the row asked, the answers."""
    if row[0] == "ask":
        _, door, guest, _, asked, answers = row
        return [(door, guest, asked, answers)]
    if row[0] == "greet":
        _, one, other, asked, answers, back, backs = row
        return [(one, other, asked, answers), (other, one, back, backs)]
    return []
