"""Crews: a lander that logs ahead of doing, and engines that carry out each command once."""

from moonfall.errors import BadPicture
from moonfall.landererrors import BadCut, BadFlight
from moonfall.landers import Lander
from moonfall.moontexts import number_of, picture_of, picture_text
from moonfall.whole import is_between, is_whole


class Engines:
    """Commands, by their numbers, that were carried out, with the pictures that they brought."""

    def __init__(self):
        self.rows = []

    def is_new(self, number):
        """Whether a command is the next one; not if it was carried out."""
        if not is_between(number, 0, len(self.rows)):
            raise BadFlight(number)
        return number == len(self.rows)

    def put(self, deed, picture):
        """The next command was carried out."""
        self.rows.append((deed, picture))

    def told(self, number):
        """The row of a command that was."""
        if not is_between(number, 0, len(self.rows) - 1):
            raise BadFlight(number)
        return self.rows[number]


def deed_line(number, deed):
    """The line of a command."""
    return f"{number} do {deed} {number}"


def picture_line(number, picture):
    """The line of the picture that a command brought."""
    return f"{number} saw {picture_text(picture)} {number}"


class Crew:
    """A lander with its log. What is loose in it may be lost by a fall, from its end."""

    def __init__(self, lander, text):
        self.lander = lander
        self.rows = []
        self.text = ""
        self.loose = ""
        self.is_open = False
        for line in text.split("\n")[:-1]:
            if not self._is_done(line):
                break
            self.text += line + "\n"

    def _is_done(self, line):
        """Do what a line of a log says; whether that could be done."""
        words = line.split(" ")
        if len(words) != 4 or words[0] != words[3]:
            return False
        number = number_of(words[0])
        if words[1] == "do":
            return self._is_deed_done(number, number_of(words[2]))
        return words[1] == "saw" and self._is_picture_seen(number, picture_of(words[2]))

    def _is_deed_done(self, number, deed):
        if number != len(self.rows):
            return False
        try:
            self.lander.do(deed)
        except BadFlight:
            return False
        self.rows.append(deed)
        self.is_open = True
        return True

    def _is_picture_seen(self, number, picture):
        if number != len(self.rows) - 1:
            return False
        try:
            self.lander.see(picture)
        except (BadFlight, BadPicture):
            return False
        return True

    def decide(self):
        """The lander's choice becomes a command; None, and nothing, if one is open or there is no choice."""
        deed = None if self.is_open else self.lander.choice()
        if deed is None:
            return None
        number = len(self.rows)
        self.loose += deed_line(number, deed) + "\n"
        self.lander.do(deed)
        self.rows.append(deed)
        self.is_open = True
        return number, deed

    def sync(self):
        """The log is settled."""
        self.text += self.loose
        self.loose = ""

    def command(self):
        """The last command if it is open and all is settled; else None."""
        if not self.is_open or self.loose:
            return None
        return len(self.rows) - 1, self.rows[-1]

    def hear(self, number, picture):
        """The engines tell that a command was carried out, and which picture it brought."""
        if not self.is_open or not is_whole(number) or number != len(self.rows) - 1:
            return
        if self.lander.looking is not None:
            self.lander.see(picture)
            self.loose += picture_line(number, picture) + "\n"
        self.is_open = False

    def fallen(self, cut):
        """The text of the log behind a fall that leaves so many signs of what is loose."""
        if not is_between(cut, 0, len(self.loose)):
            raise BadCut(cut)
        return self.text + self.loose[:cut]


def crew_of(craft, belief, fuel, most, text):
    """The crew of a fresh lander, by a log."""
    return Crew(Lander(craft, belief, fuel, most), text)
