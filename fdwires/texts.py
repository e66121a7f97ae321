"""Texts: programs as strings of words, and as listings."""

from fdwires.checks import DIGITS, is_name
from fdwires.errors import InvalidText
from fdwires.programs import check_program
from fdwires.steps import FORMS, is_part

# As many digits as the greatest amount has.
MOST_DIGITS = 31


def format_program(program):
    """The text of a program."""
    check_program(program)
    return " ".join(body_words(program))


def body_words(body):
    """The words of a body, those of the bodies of its forks in brackets."""
    words = []
    for step in body:
        if step[0] == "fork":
            words.extend(["fork", "(", *body_words(step[1]), ")"])
        else:
            words.extend(step_words(step))
    return words


def step_words(step):
    """The words of a step that is no fork."""
    return ["all" if part is None else str(part) for part in step]


def listing(program):
    """A list with a line for each step of a program, the steps of a child behind its fork and further to the right."""
    check_program(program)
    return body_lines(program, "")


def body_lines(body, margin):
    """The lines of a body, each of which begins with a margin."""
    lines = []
    for step in body:
        if step[0] == "fork":
            lines.append(margin + "fork")
            lines.extend(body_lines(step[1], margin + "  "))
        else:
            lines.append(margin + " ".join(step_words(step)))
    return lines


def parse_program(text):
    """The program that has this text."""
    if not isinstance(text, str):
        raise InvalidText(None)
    program = parsed_body([] if text == "" else text.split(" "))
    check_program(program)
    return program


def parsed_body(words):
    """The body that has these words; its steps have the right form, but they can be wrong.

    The bodies whose brackets are still to be closed are kept in a list, so that no depth of brackets is too deep.
    """
    bodies = [[]]
    at = 0
    while at < len(words):
        if words[at] == ")" and len(bodies) > 1:
            bodies.pop()
            at += 1
        elif words[at] == "fork":
            check_word("(", words, at + 1)
            child = []
            bodies[-1].append(("fork", child))
            bodies.append(child)
            at += 2
        else:
            step = parsed_step(words, at)
            bodies[-1].append(step)
            at += len(step)
    if len(bodies) > 1:
        raise InvalidText(len(words))
    return bodies[0]


def check_word(expected, words, at):
    """Raises an error if another word, or none, stands at this place."""
    if at == len(words) or words[at] != expected:
        raise InvalidText(at)


def parsed_step(words, at):
    """The step that begins with a word and is no fork; it has one item for each word."""
    word = words[at]
    if word not in FORMS:
        raise InvalidText(at)
    step = [word]
    for part in FORMS[word]:
        step.append(parsed_part(part, words, at + len(step)))
    return tuple(step)


def parsed_part(part, words, at):
    """What the word at this place means as this part of a step."""
    if at == len(words):
        raise InvalidText(at)
    word = words[at]
    if part == "name" and is_name(word):
        return word
    if part == "units or all" and word == "all":
        return None
    number = parsed_number(word)
    if number is None or not is_part(part, number):
        raise InvalidText(at)
    return number


def parsed_number(word):
    """The number that a word of digits without leading zeros stands for, None if the word is none or is too long."""
    if not 1 <= len(word) <= MOST_DIGITS or not all([sign in DIGITS for sign in word]):
        return None
    if len(word) > 1 and word[0] == "0":
        return None
    return int(word)
