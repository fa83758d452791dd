"""Texts that are near to the text of a thing, but the text of none."""

NO_NUMBERS = (
    "-0", "+1", "+0", "00", "01", "-01", "0001", "1.0", "1e0", "1_0", "0x1", "--1", "-", "+", "", "one", "1a",
    "\u0661", "\u00b2", "\uff11", "True", "None", "1,", "(1", "1" * 5000, "-" + "0" * 5000, "\u22121",
)


def with_spaces_changed(text):
    """The text with a space or a newline too many, too few, or of another kind, in each place."""
    for at in range(len(text) + 1):
        for sign in " \n\t\r":
            yield text[:at] + sign + text[at:]
    for at, sign in enumerate(text):
        if sign in " \n":
            for other in ("", "\n" if sign == " " else " ", "\t", "\v", "\f", "\r\n", "\u2028"):
                yield text[:at] + other + text[at + 1:]


def with_words_changed(text):
    """The text with a word missing or twice, in each place, but in the first line."""
    first, *lines = text.split("\n")
    for at, line in enumerate(lines):
        words = line.split(" ")
        for place, word in enumerate(words):
            for left in (words[:place] + words[place + 1:], words[:place] + [word] + words[place:]):
                yield "\n".join([first, *lines[:at], " ".join(left), *lines[at + 1:]])


def with_numbers_changed(text):
    """The text with what is no number, as Python writes it, in the place of each number."""
    first, *lines = text.split("\n")
    for at, line in enumerate(lines):
        words = line.split(" ")
        for place in (-2, -1):
            for word in NO_NUMBERS:
                changed = [*words]
                changed[place] = word
                yield "\n".join([first, *lines[:at], " ".join(changed), *lines[at + 1:]])
