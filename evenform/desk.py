"""A desk that answers lines of text, each with a line."""

from evenform.carry import refuse_no_kind, shared_telling
from evenform.errors import BadCount, BadName, NoLine, NoName
from evenform.exchanges import uneven
from evenform.polys import plus, times
from evenform.texts import read, shown, told

COUNTS = ("1", "2", "3", "4")
SMALL_LETTERS = "abcdefghijklmnopqrstuvwxyz"
LONGEST_NAME = 12


# A line parted at its blanks has an empty word where two blanks stand side by side
# or one at an end.
def has_form(words):
    if "" in words:
        return False
    if words[0] in ("unknowns", "show", "even"):
        return len(words) == 2
    if words[0] == "by":
        return len(words) == 3
    if words[0] == "let":
        return len(words) >= 4 and words[2] == "="
    if words[0] in ("add", "mul"):
        return len(words) == 5 and words[2] == "="
    return False


def refuse_bad_name(word):
    if len(word) > LONGEST_NAME or any([sign not in SMALL_LETTERS for sign in word]):
        raise BadName("a name has 1 to 12 small letters")


class Desk:
    def __init__(self):
        self.many = 2
        self.named = {}

    def tell(self, line):
        words = line.split(" ")
        if not has_form(words):
            raise NoLine("a line has one of the six forms")
        if words[0] == "unknowns":
            return self.begin_anew(words[1])
        if words[0] == "let":
            return self.let(words[1], " ".join(words[3:]))
        if words[0] == "show":
            return shown(self.many, self.polynomial(words[1]))
        if words[0] == "even":
            return self.even(words[1])
        if words[0] == "by":
            return self.by(words[1], words[2])
        return self.combine(words[0], words[1], words[3], words[4])

    def begin_anew(self, count):
        if count not in COUNTS:
            raise BadCount("there are 1 to 4 unknowns")
        self.many = int(count)
        self.named = {}
        return f"unknowns {count}"

    def let(self, name, text):
        refuse_bad_name(name)
        self.named[name] = read(self.many, text)
        return f"let {name}"

    def polynomial(self, name):
        if name not in self.named:
            raise NoName("the word stands for no polynomial")
        return self.named[name]

    def combine(self, word, name, one, other):
        refuse_bad_name(name)
        first = self.polynomial(one)
        second = self.polynomial(other)
        self.named[name] = plus(first, second) if word == "add" else times(first, second)
        return f"{word} {name}"

    def even(self, name):
        found = uneven(self.many, self.polynomial(name))
        if found is None:
            return "even"
        numbers = (found[0],) + found[1]
        return "uneven " + " ".join([str(number) for number in numbers])

    def by(self, kind, name):
        refuse_no_kind(kind)
        text = told(shared_telling(kind, self.many, self.polynomial(name)))
        return f"{kind} {text}"
