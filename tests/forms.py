"""The tests' own rule for texts [48] to [50]: the first word that cannot stand."""

import re

NAME = "[a-z]{1,12}"
NUMBER = "0|[1-9][0-9]?"
KIND = "strict|weak|free"
DIGITS = r"(0|[1-9][0-9]{0,59})(\.(0|[1-9][0-9]{0,59}))*"
EVENT = "write|look"
NOTHING = "(?!)"


def of_plan(line, words):
    """What may come behind these words of a line of a plan, and whether the line may end there."""
    many = len(words)
    if many == 0:
        return ["numbers", "cells", "looks", "tests"][line] if line < 4 else NOTHING, False
    if line == 0:
        return [NAME, NUMBER, KIND][(many - 1) % 3], many > 1 and many % 3 == 1
    if line == 1:
        return [NAME, NUMBER][(many - 1) % 2], many > 1 and many % 2 == 1
    if line == 2:
        return NUMBER, many > 1
    if words[1:2] == ["none"]:
        return NOTHING, True
    return NUMBER if many > 1 else NUMBER + "|none", many > 1 and many % 2 == 1


def of_promise(line, words):
    """What may come behind these words of a line of a promise, and whether the line may end there."""
    many = len(words)
    if many == 0:
        return "below|above|between|stood|order|together" if line == 0 else NOTHING, False
    if words[0] == "together":
        return NUMBER, many > 2
    if many == 1:
        return NAME, False
    if words[0] != "order":
        return NUMBER, many > 2
    if "against" in words[2:]:
        return NUMBER, words[-1] != "against"
    return NUMBER + "|against" if many > 2 else NUMBER, False


def of_run(line, words, lines):
    """What may come behind these words of a line of a run, and whether the line may end there."""
    many = len(words)
    if many == 0:
        has_ended = any(known[:1] == ["events"] for known in lines[:line])
        return NOTHING if has_ended else "version" if line == 0 else "version|events", False
    if words[0] == "events":
        return EVENT, many > 1
    return (NAME, DIGITS)[(many - 1) % 2], many > 1 and many % 2 == 1


def first_bad(kind, text):
    """The line and the word at which a text of this kind is bad, or None."""
    lines = [line.split(" ") for line in text.split("\n")]
    for line, words in enumerate(lines):
        for word in range(len(words) + 1):
            ahead = words[:word]
            form, may_end = of_run(line, ahead, lines) if kind == "run" else (
                of_plan if kind == "plan" else of_promise)(line, ahead)
            if word == len(words):
                if not may_end:
                    return line, word
            elif not re.fullmatch(form, words[word]):
                return line, word
            elif kind == "run" and words[0] == "version" and word > 2 and word % 2 == 1 and words[word] <= words[word - 2]:
                return line, word
    is_whole = {"plan": len(lines) >= 4, "promise": True, "run": lines[-1][0] == "events"}[kind]
    return None if is_whole else (len(lines), 0)


def changes(text):
    """The text with each word and each line replaced, left out, doubled, emptied, and with more at the end."""
    lines = [line.split(" ") for line in text.split("\n")]
    found = []
    for line, words in enumerate(lines):
        for word in range(len(words)):
            for other in OTHERS:
                found.append(lines[:line] + [words[:word] + [other] + words[word + 1:]] + lines[line + 1:])
            found.append(lines[:line] + [words[:word] + words[word + 1:]] + lines[line + 1:])
            found.append(lines[:line] + [words[:word + 1] + words[word:]] + lines[line + 1:])
            found.append(lines[:line] + [words[:word] + [""] + words[word:]] + lines[line + 1:])
            found.append(lines[:line] + [words[:word], words[word:]] + lines[line + 1:])
            found.append(lines[:line] + [words[:word]] + lines[line + 1:])
        found.append(lines[:line] + lines[line + 1:])
        found.append(lines[:line + 1] + lines[line:])
        found.append(lines[:line] + [[""]] + lines[line + 1:])
        found.append(lines[:line] + [[""]] + lines[line:])
        for other in OTHERS:
            found.append(lines[:line] + [words + [other]] + lines[line + 1:])
        found.extend(lines[:at] + [lines[line]] + lines[at:line] + lines[line + 1:] for at in range(line))
    for more in ("\n", " ", "\n\n", "\n ", "\nmore"):
        found.append([(text + more).split(" ")])
    found.append([(" " + text).split(" ")])
    found.append([("\n" + text).split(" ")])
    return ["\n".join(" ".join(words) for words in rows) for rows in found]


OTHERS = [
    "", "0", "00", "01", "7", "10", "99", "100", "007", "+1", "-1", "1.", "1.0", ".1", "0.0.0", "01.1", "1..2", "1,2",
    "n", "d", "a", "zz", "N", "n1", "abcdefghijkl", "abcdefghijklm", "none", "against", "strict", "weak", "free",
    "loose", "numbers", "cells", "looks", "tests", "version", "events", "write", "look", "walk", "below", "order",
    "together", "nonsense", "1" * 60, "1" * 61, "0." + "9" * 60, "0." + "9" * 61, "\t", "n\t", "\u0661", "\u00b2", "\u00e4",
    "1\r", "1_0", "0x1",
]
