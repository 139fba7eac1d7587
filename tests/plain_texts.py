"""The texts of section 6 told a second time: each line is judged alone, then the row of lines by a pattern."""

import re

NUMBER = "(0|[1-9][0-9]{0,11})"
WALK = f"( {NUMBER} {NUMBER})"
SIGNS = {
    "N": "net",
    "C": f"channel {NUMBER} {NUMBER} {NUMBER} {NUMBER}",
    "T": f"times (?!0 ){NUMBER} (?!0 ){NUMBER} {NUMBER}",
    "S": f"sheet {NUMBER} {NUMBER} {NUMBER} {NUMBER}",
    "L": f"lock [01] (?!0 ){NUMBER} {NUMBER} {NUMBER}",
    "O": f"(offer|agree) {NUMBER} {NUMBER} {NUMBER} {NUMBER}",
    "U": f"(turn|secret) {NUMBER} {NUMBER}",
    "P": f"pass {NUMBER} {NUMBER}{WALK}*",
    "X": f"close {NUMBER} {NUMBER} {NUMBER} {NUMBER}",
    "H": f"show {NUMBER} {NUMBER}",
    "Y": f"pay {NUMBER} (?!0 ){NUMBER} {NUMBER}{WALK}+",
    "V": f"leave {NUMBER} {NUMBER}",
    "K": "choice",
    "D": f"late {NUMBER}",
    "E": f"sent {NUMBER}",
    "W": f"own {NUMBER} {NUMBER}",
}
LETTER = "(OL*|U|P)"
ROWS = {
    "net": "NC+",
    "times": "T",
    "sheet": "SL*",
    "letters": f"{LETTER}*",
    "deeds": "(XL*|H)*",
    "wishes": "[YV]*",
    "plan": f"(K(D|XL*|H)*(E|W{LETTER})*)*",
}
# With one of these behind it each row of lines that can be gone on with is whole.
ENDS = ("", "C", "NC", "T", "S", "U")


def sign_of(line, above):
    """The sign of a line, above being the locks right above it."""
    for sign, pattern in SIGNS.items():
        if re.fullmatch(pattern, line, re.ASCII):
            parts = line.split(" ")
            twice = sign == "C" and parts[1] == parts[2] or sign == "L" and parts[3] in [part[3] for part in above]
            return "!" if twice else sign
    return "!"


def signs_of(lines):
    signs, above = "", []
    for line in lines:
        sign = sign_of(line, above)
        above = above + [line.split(" ")] if sign == "L" else []
        signs += sign
    return signs


def bad_line(kind, text):
    """The first line that can not stand there; None if text is one of this kind."""
    signs = signs_of(text.split("\n") if text else [])
    for many in range(1, len(signs) + 1):
        if not any(re.fullmatch(ROWS[kind], signs[:many] + end) for end in ENDS):
            return many
    return None if re.fullmatch(ROWS[kind], signs) else len(signs) + 1


def number_bends(part):
    """What may stand in the place of a number: right ones, too."""
    yield from ("0", "1", "2", "7", "00", "0" + part, part + " ", " " + part, "", "-1", "+1", "1.0", "1_0", "x", "9" * 12)
    # Figures of other scripts, and what else Python would take for a number or a blank.
    yield from ("9" * 13, "1" + "0" * 12, "\u0663", "\u00b2", "\uff11", part + "\t", part + "\r", "0x1", "True", "None")


def line_bends(line):
    parts = line.split(" ")
    for at, part in enumerate(parts):
        yield " ".join(parts[:at] + parts[at + 1:])
        yield " ".join(parts[:at] + [part, part] + parts[at + 1:])
        if part.isdigit():
            for other in number_bends(part):
                yield " ".join(parts[:at] + [other] + parts[at + 1:])
    for word in list(ROWS) + list("x" * 2) + [pattern.split(" ")[0] for pattern in SIGNS.values()] + ["offer", "turn", "Net"]:
        yield " ".join([word] + parts[1:])
    yield from (line + " ", " " + line, line.replace(" ", "  ", 1), line.replace(" ", "\t", 1), line + " 5", line + " 5 6")
    yield from ("", " ", line + "\r", line.upper(), line + "\x0b", line + "\u2028" + line)


def text_bends(text):
    """Texts that are text but for one place: right ones may be among them."""
    lines = text.split("\n") if text else []
    for at, line in enumerate(lines):
        for other in line_bends(line):
            yield "\n".join(lines[:at] + [other] + lines[at + 1:])
        for many in (0, 2):
            yield "\n".join(lines[:at] + [line] * many + lines[at + 1:])
        for more in ("", "net", "choice", "lock 0 4 77 9", "turn 0 0", "late 0", "sent 0", "own 0 1", "show 0 7", "channel 1 2 3 4"):
            yield "\n".join(lines[:at] + [more] + lines[at:])
        yield "\n".join(lines[:at])
        yield "\n".join(lines[at:])
        yield "\n".join(lines[:at] + lines[at:][1::-1] + lines[at + 2:])
    for end in ("\n", "\n\n", "\nx", "\nlock 1 4 77 9", "\nchoice", "\nnet", "\nsent 1", "\nturn 1 1", " ", "\r\n"):
        yield text + end
    yield from ("", "\n", " ", "\n" + text, "x", "\ufeff" + text)
