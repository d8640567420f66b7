"""Zones and plans written as texts, and read back."""

from duehall.checks import check_plan, check_zone, is_plan, is_zone
from duehall.errors import NoText

FIGURES = "0123456789"
# No number of a zone or a plan is longer, and of very long ones Python itself refuses to make a number.
MOST_FIGURES = 4


def signed(ahead):
    return "-" + str(-ahead) if ahead < 0 else "+" + str(ahead)


def zone_text(zone):
    check_zone(zone)
    return " ".join([signed(zone[0])] + [str(shift[0]) + signed(shift[1]) for shift in zone[1]])


def plan_text(plan):
    check_plan(plan)
    number = plan[1]
    if plan[0] == "once":
        return f"once at {number}"
    if plan[0] == "daily":
        return f"daily at {number}"
    step = plan[2]
    return f"every {step} from {number}"


def check_text(thing):
    if not isinstance(thing, str):
        raise NoText("this is no text")


def read_number(text):
    # Python's own reading takes signs, blanks and figures of other writings, too.
    if not 1 <= len(text) <= MOST_FIGURES or not all([sign in FIGURES for sign in text]):
        raise NoText("this is no number in plain figures")
    number = int(text)
    if str(number) != text:
        raise NoText("this number has a needless 0")
    return number


def read_ahead(text):
    number = read_number(text[1:])
    if text.startswith("+"):
        return number
    # Of 0 the one sign is +.
    if text.startswith("-") and number > 0:
        return -number
    raise NoText("this is no number with its sign")


def read_shift(text):
    place = max(text.find("+"), text.find("-"))
    if place < 0:
        raise NoText("this shift has no sign")
    return (read_number(text[:place]), read_ahead(text[place:]))


def read_zone(text):
    check_text(text)
    parts = text.split(" ")
    zone = (read_ahead(parts[0]), tuple([read_shift(part) for part in parts[1:]]))
    if not is_zone(zone):
        raise NoText("this is the text of no zone")
    return zone


def read_words(text):
    words = text.split(" ")
    if len(words) == 3 and words[0] in ("once", "daily") and words[1] == "at":
        return (words[0], read_number(words[2]))
    if len(words) == 4 and words[0] == "every" and words[2] == "from":
        return (words[0], read_number(words[3]), read_number(words[1]))
    raise NoText("these are not the words of a plan")


def read_plan(text):
    check_text(text)
    plan = read_words(text)
    if not is_plan(plan):
        raise NoText("this is the text of no plan")
    return plan
