"""A desk of rows: a net and its run, asked and told by rows of text."""

from sumwires.back import told_back
from sumwires.checks import missed_share
from sumwires.cuts import cut_shown
from sumwires.errors import BadLine
from sumwires.least import least
from sumwires.nettext import read_net, show_net
from sumwires.rings import ring_of
from sumwires.runs import Run
from sumwires.states import brought, come_to, told_apart
from sumwires.tables import hangs_on, net_of, table_of
from sumwires.words import bits_of, is_name, mask_in, text_of, words_of

GREATEST_NUMBER = 300
MOST_FIGURES = 3


def or_nothing(text):
    return "nothing" if text == "" else text


def shown_bits(mask, width):
    return "-" if width == 0 else text_of(mask, width)


def shown_rows(rows, width):
    return [shown_bits(row, width) for row in rows]


def shown_numbers(numbers):
    return [str(number) for number in numbers]


def shown_text(net):
    return or_nothing(show_net(net).replace("\n", "; "))


def shown_apart(told):
    return "alike" if told[0] == "alike" else " ".join(["apart"] + shown_numbers(told[1:]))


# The readers of a word give back None where it hasn't the form.
def read_bits(word, width):
    if width == 0:
        return 0 if word == "-" else None
    if len(word) != width or any([sign not in "01" for sign in word]):
        return None
    return mask_in(word)[0]


def read_number(word):
    if word == "" or len(word) > MOST_FIGURES or any([sign not in "0123456789" for sign in word]):
        return None
    number = int(word)
    if number > GREATEST_NUMBER or str(number) != word:
        return None
    return number


def read_word(kind, word, net):
    if kind == "row":
        return read_bits(word, len(net.in_names()))
    if kind == "state":
        return read_bits(word, len(net.store_rows()))
    if kind == "number":
        return read_number(word)
    return word if is_name(word) else None


# Each of these answers one kind of row by the desk's run and what was asked.
def turns_answer(going, rows):
    answers = [going.step(row) for row in rows]
    return " ".join(shown_rows(answers, len(going.net.out_wires())))


def state_answer(going, asked):
    return shown_bits(going.state(), len(going.net.store_rows()))


def wire_answer(going, asked):
    return str(going.wire_now(asked[0]))


def text_answer(going, asked):
    return shown_text(going.net)


def hangs_answer(going, asked):
    pair = hangs_on(going.net, asked[0])
    stores = [row[0] for row in going.net.store_rows()]
    ins = going.net.in_names()
    names = [stores[place] for place in bits_of(pair[0])] + [ins[place] for place in bits_of(pair[1])]
    return or_nothing(" ".join(names))


def come_answer(going, asked):
    told = come_to(table_of(going.net), asked[0])
    if told[0] == "never":
        return "never"
    return " ".join(["come"] + shown_rows(told[1], len(going.net.in_names())))


def apart_answer(going, asked):
    return shown_apart(told_apart(table_of(going.net), asked[0], asked[1]))


def bring_answer(going, asked):
    told = brought(table_of(going.net), going.state(), asked[0], asked[1])
    if told[0] == "no":
        return "no"
    return " ".join(["rows"] + shown_rows(told[1], len(going.net.in_names())))


def ring_answer(going, asked):
    return " ".join(shown_numbers(ring_of(table_of(going.net), going.state())))


def misses_answer(going, asked):
    return " ".join(shown_numbers(missed_share(table_of(going.net), asked[0])))


def back_answer(going, asked):
    told = told_back(table_of(going.net))
    return "never" if told[0] == "never" else " ".join(["back", str(told[1])])


def least_answer(going, asked):
    return shown_text(net_of(least(table_of(going.net))[0]))


def cut_answer(going, asked):
    return shown_apart(cut_shown(going.net, asked[0]))


# By a row's first word the kinds of the others, and what answers it.
FORMS = {
    "turn": (("row",), turns_answer),
    "state": ((), state_answer),
    "wire": (("name",), wire_answer),
    "text": ((), text_answer),
    "hangs": (("name",), hangs_answer),
    "come": (("state",), come_answer),
    "apart": (("state", "state"), apart_answer),
    "bring": (("state", "number"), bring_answer),
    "ring": ((), ring_answer),
    "misses": (("number",), misses_answer),
    "back": ((), back_answer),
    "least": ((), least_answer),
    "cut": (("name",), cut_answer),
}


# What the words behind the first one ask for, each of its kind.
def read_words(kinds, words, net):
    if len(kinds) != len(words):
        raise BadLine(0)
    asked = [read_word(kind, word, net) for kind, word in zip(kinds, words)]
    if any([thing is None for thing in asked]):
        raise BadLine(0)
    return asked


# `net` alone stands for the empty text, so a blank with nothing behind it has no form.
def read_rows(row):
    if row == "net ":
        raise BadLine(0)
    return read_net(row[len("net "):].replace("; ", "\n"))


class Desk:
    def __init__(self, text):
        self.going = Run(read_net(text))

    def say(self, row):
        if "\n" in row:
            raise BadLine(0)
        words = words_of(row)
        if words[0] == "net":
            self.going = Run(read_rows(row))
            return "ok"
        if words[0] == "run" and len(words) > 1:
            return turns_answer(self.going, read_words(["row"] * (len(words) - 1), words[1:], self.going.net))
        if words[0] not in FORMS:
            raise BadLine(0)
        form = FORMS[words[0]]
        return form[1](self.going, read_words(form[0], words[1:], self.going.net))
