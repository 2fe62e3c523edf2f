"""A desk answers the lines of a text, for one hall."""

from partnercall.between import distance, words_many
from partnercall.calls import check_person
from partnercall.errors import BadLine, BadText, Last, NoPerson, OtherSize
from partnercall.fewest import fewest_calls
from partnercall.hall import Hall
from partnercall.repeats import settles
from partnercall.results import results_many
from partnercall.sheets import sheet_of
from partnercall.texts import call_in, call_text, number_in, pairing_in, pairing_text, word_in, word_text

MOST_TIMES = 10 ** 12

# What stands behind the name in each line.
FORMS = {
    "call": ("call",), "run": ("word",), "repeat": ("times", "word"), "become": ("pairing",), "come": (),
    "leave": ("person",), "undo": (), "show": (), "partner": ("person",), "results": ("word",), "settles": ("word",),
    "distance": ("pairing",), "ways": ("pairing",), "fewest": ("word",),
}


def part_in(form, text):
    """Return what a text of this form tells; return None, or raise BadText, if it is not of this form."""
    if form == "word":
        return word_in(text)
    if form == "pairing":
        return pairing_in(text)
    if form == "call":
        return call_in(text)
    number = number_in(text)
    if form == "times" and number is not None and number > MOST_TIMES:
        return None
    return number


def request_in(line):
    """Return the list of the name and the parts of a line; return None, or raise BadText, if it has no such form."""
    name = line.split(" ")[0]
    if name not in FORMS:
        return None
    forms = FORMS[name]
    # The last part is a text with blanks of its own.
    words = line.split(" ", len(forms))
    if words[0] != name or len(words) != len(forms) + 1:
        return None
    parts = [part_in(form, text) for form, text in zip(forms, words[1:])]
    return None if None in parts else [name] + parts


def lines_in(text):
    """Return the list of the PAIRING of the first line and the requests of the others."""
    found = []
    for at, line in enumerate(text.split("\n")):
        try:
            content = pairing_in(line) if at == 0 else request_in(line)
        except BadText:
            raise BadLine(at) from None
        if content is None:
            raise BadLine(at)
        found.append(content)
    return found


def sheet_now(hall, word):
    """Return the SHEET of a WORD for the people of a Hall."""
    return sheet_of(len(hall), word)


def answer_call(hall, parts):
    a, b = parts[0]
    left = hall.call(a, b)
    return "-" if left is None else call_text(left)


def answer_run(hall, parts):
    return str(hall.run(parts[0]))


def answer_repeat(hall, parts):
    return str(hall.repeat(parts[1], parts[0]))


def answer_become(hall, parts):
    return word_text(hall.become(parts[0]))


def answer_come(hall, parts):
    return call_text(hall.come())


def answer_leave(hall, parts):
    return str(hall.leave(parts[0]))


def answer_undo(hall, parts):
    return "done" if hall.undo() else "nothing"


def answer_show(hall, parts):
    return pairing_text(hall.pairing())


def answer_partner(hall, parts):
    check_person(len(hall), parts[0])
    return str(hall.pairing()[parts[0]])


def answer_results(hall, parts):
    return str(results_many(sheet_now(hall, parts[0])))


def answer_settles(hall, parts):
    begin, period = settles(hall.pairing(), parts[0])
    return f"{begin} {period}"


def answer_distance(hall, parts):
    return str(distance(hall.pairing(), parts[0]))


def answer_ways(hall, parts):
    return str(words_many(hall.pairing(), parts[0]))


def answer_fewest(hall, parts):
    return str(fewest_calls(sheet_now(hall, parts[0])))


ANSWERS = {
    "call": answer_call, "run": answer_run, "repeat": answer_repeat, "become": answer_become, "come": answer_come,
    "leave": answer_leave, "undo": answer_undo, "show": answer_show, "partner": answer_partner,
    "results": answer_results, "settles": answer_settles, "distance": answer_distance, "ways": answer_ways,
    "fewest": answer_fewest,
}


def answer(hall, request):
    """Return the answer to a request, also if it is refused."""
    action = ANSWERS[request[0]]
    try:
        return action(hall, request[1:])
    except NoPerson:
        return "refused NoPerson"
    except OtherSize:
        return "refused OtherSize"
    except Last:
        return "refused Last"


def answers(text):
    """Return the list of the answers to all lines of a text behind the first one, which is that of a PAIRING."""
    found = lines_in(text)
    hall = Hall(found[0])
    return [answer(hall, request) for request in found[1:]]
