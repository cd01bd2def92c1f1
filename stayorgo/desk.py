"""The class that keeps a live house by texts."""

from stayorgo.errors import InvalidEvent, InvalidText, NothingToUndo
from stayorgo.eventtexts import event_fault, event_in, field_fault, is_number_word
from stayorgo.kinds import is_below
from stayorgo.live import LiveHouse
from stayorgo.liveevents import WORDS
from stayorgo.usable import require, size_of
from stayorgo.webtexts import load_line

ASKED = ("held", "rooms", "passed", "came", "left", "tally")


def text_fault(size, words):
    """The field at which the words are not those of a text that a desk of the size hears, or None."""
    if words[0] == "undo":
        return field_fault(words, [True, is_number_word((words + [""])[1])])
    if words[0] not in WORDS:
        return field_fault(words, [words[0] in ASKED])
    if len(words) > 1 and is_number_word(words[1]) and not is_below(size, int(words[1])):
        return 1
    return event_fault(words)


class Desk:
    """A live house that answers texts."""

    def __init__(self, web):
        self.house = LiveHouse(web)

    @property
    def log(self):
        """The log of the house."""
        return self.house.log

    def fault_of(self, text):
        """The field at which the text is not one that is heard, or None."""
        return text_fault(size_of(self.house.web), text.split(" "))

    def hear(self, text):
        """The answer to the text."""
        require(isinstance(text, str), "text")
        field = self.fault_of(text)
        if field is not None:
            raise InvalidText(0, field)
        words = text.split(" ")
        if words[0] in ASKED:
            return self.told(words[0])
        try:
            if words[0] == "undo":
                self.house.undo(int(words[1]))
            else:
                self.house.go(event_in(words))
        except NothingToUndo:
            return "no: undo"
        except InvalidEvent as refusal:
            return "no: " + refusal.reason
        return "done"

    def told(self, word):
        """What is asked by the word."""
        house = self.house
        if word == "tally":
            return " ".join([str(number) for number in house.tally])
        loads = {
            "held": house.held_now, "rooms": house.rooms_now, "passed": house.passed_now, "came": house.came_now,
            "left": house.left_now,
        }
        return load_line(loads[word])

    def hear_all(self, *texts):
        """The answers to all texts, each heard when its answer is asked for."""
        require(all([isinstance(text, str) for text in texts]), "texts")
        for k, text in enumerate(texts):
            field = self.fault_of(text)
            if field is not None:
                raise InvalidText(k, field)
        for text in texts:
            yield self.hear(text)
