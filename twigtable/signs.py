"""Values written as texts, and texts read from the left by a strip."""

from twigtable.errors import BadText
from twigtable.words import MOST_LETTERS, base_of, is_clash, is_key, is_plain, sides_of

MOST_FIGURES = 30


def shown_plain(value):
    if value is None:
        return "~"
    if isinstance(value, str):
        count = len(value)
        return f"t{count}:{value}"
    return str(value)


def shown(value):
    if not isinstance(value, tuple):
        return shown_plain(value)
    nows = sides_of(value)
    count = len(nows)
    parts = [shown_plain(plain) for plain in [base_of(value)] + nows]
    return " ".join([f"c{count}"] + parts)


class Strip:
    def __init__(self, text):
        self.text = text
        self.at = 0

    def is_over(self):
        return self.at == len(self.text)

    def sign_ahead(self):
        return self.text[self.at:self.at + 1]

    def run_ahead(self, first, last, most):
        end = self.at
        while end < len(self.text) and first <= self.text[end] <= last:
            end = end + 1
        if not 1 <= end - self.at <= most:
            raise BadText()
        return self.text[self.at:end]

    def take_whole(self):
        # Other scripts have figures that Python counts as such, so the run is from "0" to "9".
        figures = self.run_ahead("0", "9", MOST_FIGURES)
        if len(figures) > 1 and figures[0] == "0":
            raise BadText()
        self.at = self.at + len(figures)
        return int(figures)

    def take_word(self):
        letters = self.run_ahead("a", "z", MOST_LETTERS)
        self.at = self.at + len(letters)
        return letters

    def take_sign(self, one):
        if self.sign_ahead() != one:
            raise BadText()
        self.at = self.at + 1

    def take_line_end(self):
        self.take_sign("\n")

    def take_signs(self, count):
        signs = self.text[self.at:self.at + count]
        if len(signs) != count:
            raise BadText()
        self.at = self.at + count
        return signs

    def take_plain(self):
        return self.take_by(plain_from)

    def take_value(self):
        return self.take_by(value_from)

    def take_key(self):
        return self.take_by(key_from)

    def take_by(self, step):
        # A step of several takes may be refused midway, and then none of it counts.
        start = self.at
        try:
            return step(self)
        except BadText:
            self.at = start
            raise BadText() from None


def plain_from(strip):
    sign = strip.sign_ahead()
    if sign == "~":
        strip.take_sign("~")
        return None
    if sign == "-":
        return minus_from(strip)
    if sign == "t":
        return text_from(strip)
    return strip.take_whole()


def minus_from(strip):
    strip.take_sign("-")
    number = strip.take_whole()
    if number == 0:
        raise BadText()
    return -number


def text_from(strip):
    strip.take_sign("t")
    count = strip.take_whole()
    strip.take_sign(":")
    text = strip.take_signs(count)
    if not is_plain(text):
        raise BadText()
    return text


def value_from(strip):
    if strip.sign_ahead() == "c":
        return clash_from(strip)
    return strip.take_plain()


def clash_from(strip):
    strip.take_sign("c")
    count = strip.take_whole()
    strip.take_sign(" ")
    was = strip.take_plain()
    nows = []
    while len(nows) < count:
        strip.take_sign(" ")
        nows.append(strip.take_plain())
    clash = (was, tuple(nows))
    if not is_clash(clash):
        raise BadText()
    return clash


def key_from(strip):
    key = strip.take_plain()
    if not is_key(key):
        raise BadText()
    return key


def read_value(text):
    strip = Strip(text)
    value = strip.take_value()
    if not strip.is_over():
        raise BadText()
    return value
