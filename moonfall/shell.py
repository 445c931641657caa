"""The shell: scripts that tell a craft, and ask what is sure of it."""

from moonfall.crafts import MOST_TANK
from moonfall.dooms import doom_for
from moonfall.goals import is_goal
from moonfall.looks import fewest_looks
from moonfall.moontexts import belief_of, belief_text, deed_text, number_of, picture_text, rows_text, word_at
from moonfall.plans import plan_for
from moonfall.regions import sure_standings
from moonfall.sureness import ENDLESS
from moonfall.telling import Telling, check_end
from moonfall.texterrors import BadText
from moonfall.values import least_fuel
from moonfall.whole import is_between

QUESTIONS = ("least", "looks", "sure", "where")


def run_script(text):
    """The list of the lines that answer the questions of a script."""
    lines = text.split("\n")
    telling = Telling()
    at = 0
    while at < len(lines) and not _is_go(lines[at], at):
        telling.tell(lines[at], at)
        at += 1
    craft = telling.craft_told()
    if craft is None or at == len(lines):
        raise BadText(at, 0)
    asked = [_question(craft, lines[line], line) for line in range(at + 1, len(lines))]
    told = []
    for question in asked:
        told.extend(_answered(craft, question))
    return told


def _is_go(text, line):
    words = text.split(" ")
    if words[0] != "go":
        return False
    check_end(words, 1, line)
    return True


def _question(craft, text, line):
    """What a line asks: its word, a goal, a belief (None if it asks for standings), a fuel."""
    words = text.split(" ")
    if words[0] not in QUESTIONS:
        raise BadText(line, 0)
    goal = word_at(words, 1)
    if not is_goal(goal):
        raise BadText(line, 1)
    at = 2
    belief = None
    if words[0] != "where":
        belief = belief_of(word_at(words, 2))
        if belief is None or not all([craft.is_over(standing) for standing in belief]):
            raise BadText(line, 2)
        at = 3
    fuel = number_of(word_at(words, at))
    if not is_between(fuel, 0, MOST_TANK):
        raise BadText(line, at)
    check_end(words, at + 1, line)
    return words[0], goal, belief, fuel


def _answered(craft, question):
    """The lines that answer a question."""
    word, goal, belief, fuel = question
    if word == "least":
        return [f"least {_or_none(least_fuel(craft, goal, belief, fuel, ENDLESS))}"]
    if word == "looks":
        return [f"looks {_or_none(fewest_looks(craft, goal, belief, fuel, ENDLESS))}"]
    if word == "where":
        return [f"where {belief_text(sure_standings(craft, goal, fuel, ENDLESS))}"]
    plan = plan_for(craft, goal, belief, fuel, ENDLESS)
    if plan is not None:
        return ["sure"] + [_plan_line(craft, row) for row in plan]
    return ["not sure"] + [_doom_line(row) for row in doom_for(craft, goal, belief, fuel, ENDLESS)]


def _or_none(number):
    return "none" if number is None else str(number)


def _plan_line(craft, row):
    belief, fuel, number = row
    return f"row {belief_text(belief)} {fuel} {deed_text(craft.deeds[number])}"


def _doom_line(row):
    belief, fuel, answers = row
    return " ".join(["row", belief_text(belief), str(fuel)] + [_answer_word(answer) for answer in answers])


def _answer_word(answer):
    """An answer of a doom as a word."""
    word = answer[0]
    if word == "picture":
        return f"{word}:{picture_text(answer[1])}"
    if word == "bad":
        return f"{word}:{rows_text(answer[1:])}"
    return word
