"""Commands of the console: their forms, and their answers about a machine."""

from loopsdeep.errors import InvalidCommand
from loopsdeep.judging import parting_word
from loopsdeep.machine_texts import told_number
from loopsdeep.machines import is_word
from loopsdeep.ranks import rank
from loopsdeep.told_texts import expression_told, machine_told

MOST_DEPTHS = 100


def command_read(command):
    """The first word of any value that is a command, with what follows it read; raises InvalidCommand."""
    if not isinstance(command, str):
        raise InvalidCommand()
    if command in ("rank", "show"):
        return command, None
    name, _, text = command.partition(" ")
    if name not in READERS:
        raise InvalidCommand()
    reader = READERS[name]
    told = reader(text)
    if told is None:
        raise InvalidCommand()
    return name, told


def machine_in(text):
    """The machine whose text has this one with line feeds in the place of semicolons, or None."""
    # A line feed in a command would be taken for one that was a semicolon.
    if "\n" in text:
        return None
    return machine_told(text.replace(";", "\n"))


def expression_in(text):
    """The expression with a text, or None."""
    return expression_told(text)


def depth_in(text):
    """The depth that a text tells, or None."""
    return told_number(text, MOST_DEPTHS)


def word_in(text):
    """The word that a text tells, or None."""
    if text == "-":
        return ""
    if text == "" or not is_word(text):
        return None
    return text


def word_shown(word):
    """How the console writes a word."""
    return "-" if word == "" else word


def answer_rank(machine, _):
    """The rank."""
    return str(rank(machine))


def answer_show(machine, _):
    """The text of the machine on one line."""
    return str(machine).replace("\n", ";")


def answer_takes(machine, word):
    """Whether a word is one of the machine."""
    return "yes" if word in machine else "no"


def answer_flat(machine, depth):
    """Whether expressions of this depth are enough for the words of the machine."""
    return "yes" if rank(machine) <= depth else "no"


def answer_apart(machine, expression):
    """The first shortest word of just one of the machine and an expression, or a sign that there is none."""
    word = parting_word(machine, expression)
    return "=" if word is None else word_shown(word)


READERS = {
    "machine": machine_in,
    "from": expression_in,
    "takes": word_in,
    "flat": depth_in,
    "apart": expression_in,
}
ANSWERS = {
    "rank": answer_rank,
    "show": answer_show,
    "takes": answer_takes,
    "flat": answer_flat,
    "apart": answer_apart,
}


def answer_of(machine, name, told):
    """The answer of a command other than machine and from."""
    answer = ANSWERS[name]
    return answer(machine, told)
