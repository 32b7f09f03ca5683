"""Texts near those that can be read, for the tests."""

MORE = ("", "0", "1", "2", "-1", "00", "01", "+1", "x", "1\n", "\n", "-", "=", "1.0", "999", "1000", "sum", "True")


def near_texts(text, more=MORE):
    """The line with words more, less, changed, doubled, and with signs put in."""
    words = text.split(" ")
    for k in range(len(words) + 1):
        yield " ".join(words[:k])
        yield " ".join(words[:k] + words[k + 1:])
        yield " ".join(words[:k] + words[k:k + 1] + words[k:])
        for word in more:
            yield " ".join(words[:k] + [word] + words[k:])
            yield " ".join(words[:k] + [word] + words[k + 1:])
    yield " ".join(reversed(words))
    for k in range(min(len(text), 40) + 1):
        for sign in " 0\ns-":
            yield text[:k] + sign + text[k:]
    yield from (text + " ", " " + text, text + "\n", text.upper(), text.replace(" ", "  "), text.replace(" ", "\n"))
