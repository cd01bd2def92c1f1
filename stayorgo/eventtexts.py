"""The lines of events, written and read."""

from stayorgo.errors import InvalidText
from stayorgo.kinds import is_quotient
from stayorgo.liveevents import WORDS, is_any_event
from stayorgo.usable import require
from stayorgo.webtexts import DIGITS


def is_number_word(word):
    """Whether the word is a number as in a line."""
    if word == "" or any([sign not in DIGITS for sign in word]):
        return False
    return word == "0" or word[0] != "0"


def is_amount_word(word):
    """Whether the word is a quotient of at least 0 as in a line."""
    top, _, bottom = word.partition("/")
    return is_number_word(top) and is_number_word(bottom) and is_quotient((int(top), int(bottom)))


def field_fault(words, fitting):
    """The number of the first word that is not fitting, or how many words there are if there are too few, or None.

    fitting has for each word of the line whether the word of that number, if there is one, is as it has to be.
    """
    wrong = [k for k in range(min(len(words), len(fitting))) if not fitting[k]]
    if wrong:
        return wrong[0]
    return None if len(words) == len(fitting) else min(len(words), len(fitting))


def event_fault(words):
    """The field at which the words are not the line of an event, or None."""
    place, amount = (words + ["", ""])[1:3]
    return field_fault(words, [words[0] in WORDS, is_number_word(place), is_amount_word(amount)])


def event_in(words):
    """The event whose line has these words."""
    top, _, bottom = words[2].partition("/")
    return (words[0], int(words[1]), (int(top), int(bottom)))


def event_line(event):
    """The line of an event."""
    require(is_any_event(event), "event")
    word, place, (top, bottom) = event
    return word + " " + str(place) + " " + str(top) + "/" + str(bottom)


def read_event(text):
    """The event whose line text is."""
    require(isinstance(text, str), "text")
    words = text.split(" ")
    field = event_fault(words)
    if field is not None:
        raise InvalidText(0, field)
    return event_in(words)
