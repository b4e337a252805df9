"""Words, the lines of texts, and what a text costs within a width."""

LONGEST_WORD = 12


def is_word(thing):
    if not isinstance(thing, str):
        return False
    if len(thing) < 1 or len(thing) > LONGEST_WORD:
        return False
    return all(["!" <= sign and sign <= "~" for sign in thing])


def lines_of(text):
    # Not splitlines: it drops the empty line behind a last line feed, and the line of the empty text.
    return text.split("\n")


def fits(text, width):
    return all([len(line) <= width for line in lines_of(text)])


def price(text, width):
    if not fits(text, width):
        return None
    lines = lines_of(text)
    rag = sum([(width - len(line)) * (width - len(line)) for line in lines[:-1]])
    return (len(lines), rag)


def cheaper(one, other):
    if one[0] != other[0]:
        return one[0] < other[0]
    return one[1] < other[1]
