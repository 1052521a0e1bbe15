"""A desk over a book of lands: lines are said to it, and it answers by texts."""

from sizeladders.errors import NoLine
from sizeladders.lands import is_name
from sizeladders.measures import measure_in
from sizeladders.parting import parting
from sizeladders.reading import read_lands, read_row
from sizeladders.rounds import round_from

NOTHING = "-"
MOST_STOPS = 4


def name_in(words):
    """The name that these words, just one, are."""
    if len(words) != 1 or not is_name(words[0]):
        raise NoLine("a name stands here")
    return words[0]


def told_in(words):
    """The Measure that these words are."""
    measure = measure_in(" ".join(words))
    if measure is None:
        raise NoLine("a measure stands here")
    return measure


def no_words(words):
    """Refuses a line that goes on where it should end."""
    if len(words) > 0:
        raise NoLine("nothing stands here")


def place_of_name(words, start):
    """The number of the first word from start on that is a name, or how many words there are where none is."""
    for at in range(start, len(words)):
        if is_name(words[at]):
            return at
    return len(words)


def say_tell(book, words):
    """tell ROW"""
    if len(words) == 0:
        raise NoLine("a blank stands behind tell")
    # A row has no line feed, so that more than one row is none, and so is the text of an empty book.
    name, ladder, first, step = read_row(" ".join(words), 0)
    book.tell(name, ladder, first, step)
    return "done"


def say_drop(book, words):
    """drop NAME"""
    book.drop(name_in(words))
    return "done"


def say_back(book, words):
    """back"""
    no_words(words)
    book.back()
    return "done"


def say_book(book, words):
    """book"""
    no_words(words)
    return str(book)


def say_size(book, words):
    """size NAME MEASURE"""
    name = name_in(words[:1])
    measure = told_in(words[1:])
    number = book.ladder(name).size(measure)
    if number is None:
        return NOTHING
    return str(book.label(name, number))


def say_stretch(book, words):
    """stretch NAME LABEL"""
    name = name_in(words[:1])
    label = told_in(words[1:])
    number = book.called(name, label)
    if number is None:
        return NOTHING
    stretch = book.ladder(name).stretch(number)
    if stretch is None:
        return NOTHING
    return str(stretch)


def say_lead(book, words):
    """lead NAME LABEL NAME"""
    name = name_in(words[:1])
    label = told_in(words[1:-1])
    other = name_in(words[-1:])
    labels = book.lead(name, label, other)
    if len(labels) == 0:
        return NOTHING
    return ", ".join([str(each) for each in labels])


def say_round(book, words):
    """round NAME LABEL NAME .."""
    home = name_in(words[:1])
    behind = place_of_name(words, 1)
    label = told_in(words[1:behind])
    stops = [name_in([word]) for word in words[behind:]]
    if not 1 <= len(stops) <= MOST_STOPS:
        raise NoLine("one to four names stand behind the label")
    ladders = tuple([book.ladder(name) for name in [home] + stops])
    number = book.called(home, label)
    if number is None:
        return NOTHING
    told = round_from(ladders, number)
    if told[0] == "stops":
        return "stops"
    low, high = told[1][-1]
    return f"{book.label(home, low)} .. {book.label(home, high)}"


def say_part(book, words):
    """part NAME NAME LOW to HIGH"""
    names = [name_in(words[:1]), name_in(words[1:2])]
    ahead, to, behind = " ".join(words[2:]).partition(" to ")
    low = told_in([ahead])
    high = told_in([behind])
    one, other = [book.ladder(name) for name in names]
    if high.is_below(low):
        return NOTHING
    told = parting(one, other, low, high)
    if told[0] == "alike":
        return "alike"
    word, measure, where, here, there = told
    return f"{where} {measure}"


ANSWERS = {"tell": say_tell, "drop": say_drop, "back": say_back, "book": say_book, "size": say_size,
           "stretch": say_stretch, "lead": say_lead, "round": say_round, "part": say_part}


class Desk:
    """Answers lines about the book of lands that it holds."""

    def __init__(self, text="none"):
        self.book = read_lands(text)

    def say(self, line):
        """The answer to a line, a text."""
        if not isinstance(line, str):
            raise NoLine("a line is a text")
        words = line.split(" ")
        if words[0] not in ANSWERS:
            raise NoLine("no line begins so")
        answer = ANSWERS[words[0]]
        return answer(self.book, words[1:])
