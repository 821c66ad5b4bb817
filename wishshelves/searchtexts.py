"""Texts of searches: written with no more brackets than are needed, and read just as they are written."""

from wishshelves.errors import BadText
from wishshelves.names import is_decimal, is_name, is_path
from wishshelves.searches import MOST_CONDITIONS, ROW_WORDS, Search, row_of

# From the one that binds least.
SIGNS = (("|", "or"), ("^", "either"), ("&", "and"))
SHOWN_SIGNS = {"or": " | ", "either": " ^ ", "and": " & "}
BINDING = {"or": 0, "either": 1, "and": 2}
NO_WORDS = ("|", "^", "&", "~", "(", ")")
MOST_FIGURES = 2


def show_search(search):
    """Return the text of a search."""
    word = search.parts[0]
    if word == "not":
        inner = search.parts[1]
        shown = bracketed(inner, inner.parts[0] in ROW_WORDS)
        return f"~{shown}"
    if word not in ROW_WORDS:
        return show_condition(search.parts)
    shown = []
    for member in search.parts[1:]:
        row = member.parts[0]
        shown.append(bracketed(member, row in ROW_WORDS and BINDING[row] < BINDING[word]))
    return SHOWN_SIGNS[word].join(shown)


def bracketed(search, needed):
    """Return the text of a search, in brackets if they are needed."""
    shown = show_search(search)
    return f"({shown})" if needed else shown


def show_condition(condition):
    """Return the text of a condition."""
    word = condition[0]
    if word == "least":
        return f"{condition[1]} >= {condition[2]}"
    if word == "most":
        return f"{condition[1]} <= {condition[2]}"
    if word == "said":
        return f"{condition[1]} is {condition[2]}"
    shown = "in" if word == "at" else word
    return " ".join([shown, *condition[1:]])


def read_search(text):
    """Return the search that is written so."""
    # Each pair of brackets holds a row, and there are fewer rows than conditions: so no text leads too deep.
    if not isinstance(text, str) or text.count("(") > MOST_CONDITIONS:
        raise BadText(text)
    reader = Reader(text)
    search = reader.row(0)
    # Needless brackets, blanks and what stands behind the last word are read over: what was read is not written so.
    if show_search(search) != text:
        raise BadText(text)
    return search


class Reader:
    """The words and signs of a text, and how many of them are read."""

    def __init__(self, text):
        self.text = text
        self.words = text.replace("(", "( ").replace(")", " )").replace("~", "~ ").split(" ")
        self.at = 0
        self.conditions = 0

    def ahead(self):
        """Return the word or sign that comes next, an empty one behind the last one."""
        return self.words[self.at] if self.at < len(self.words) else ""

    def row(self, level):
        """Read a row of the sign of this level, or what binds more."""
        if level == len(SIGNS):
            return self.single()
        sign, word = SIGNS[level]
        search = self.row(level + 1)
        while self.ahead() == sign:
            self.at += 1
            search = row_of(word, search, self.row(level + 1))
        return search

    def single(self):
        """Read a condition, or what stands in brackets, with or without ~ ahead."""
        if self.ahead() == "~":
            self.at += 1
            return ~self.bare()
        return self.bare()

    def bare(self):
        """Read a condition, or what stands in brackets."""
        if self.ahead() != "(":
            return self.condition()
        self.at += 1
        search = self.row(0)
        if self.ahead() != ")":
            raise BadText(self.text)
        self.at += 1
        return search

    def condition(self):
        """Read a condition: all words up to the next sign."""
        words = []
        while self.ahead() != "" and self.ahead() not in NO_WORDS:
            words.append(self.ahead())
            self.at += 1
        parts = parts_of(words)
        self.conditions += 1
        if parts is None or self.conditions > MOST_CONDITIONS:
            raise BadText(self.text)
        return Search(parts)


def parts_of(words):
    """Return the parts of the condition that is written with these words, None if there is none."""
    # Names may be words of texts, too: it is how many words there are that tells what they are.
    if len(words) == 1 and words[0] in ("everything", "nothing"):
        return (words[0],)
    if len(words) == 2 and words[0] in ("in", "below") and is_path(words[1]):
        return ("at" if words[0] == "in" else "below", words[1])
    if len(words) == 2 and words[0] in ("marked", "filled", "shelf") and is_name(words[1]):
        return (words[0], words[1])
    if len(words) == 3 and is_name(words[0]):
        return parts_about(words[0], words[1], words[2])
    return None


def parts_about(name, sign, word):
    """Return the parts of a condition about the number or the word of this name, None if it is not written so."""
    if sign == "is" and is_name(word):
        return ("said", name, word)
    if sign in (">=", "<=") and is_decimal(word, MOST_FIGURES):
        return ("least" if sign == ">=" else "most", name, int(word))
    return None
