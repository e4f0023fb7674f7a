"""The desk: it has a plan, is told rows of words, and answers each with a text."""

from wallplan.deeds import DEEDS, DEED_FORMS
from wallplan.errors import Held, NoAxis, NoCorner, NoHold, NoMove, NoName, NoOpening, NoText, NoThing, NoWall, TooMany
from wallplan.plans import EMPTY
from wallplan.questions import NONE, QUESTIONS, QUESTION_FORMS, tell_changes
from wallplan.words import values_of

OK = "ok"
NOT_KNOWN = "not known"


def with_name(word, name):
    """A refusal's word, and its name where there is one."""
    return word if name is None else f"{word} {name}"


def outcome(word, plan, values):
    """The plan behind a deed and the answer: where it is refused the plan as it was."""
    deed = DEEDS[word]
    try:
        new = deed(plan, values)
    except NoWall:
        return (plan, "nowall")
    except TooMany:
        return (plan, "toomany")
    except NoCorner:
        return (plan, "nocorner")
    except NoAxis:
        return (plan, "noaxis")
    except NoMove:
        return (plan, "nomove")
    except NoName:
        return (plan, "noname")
    except NoText:
        return (plan, "notext")
    except Held as held:
        return (plan, with_name("held", held.name))
    except NoHold as hold:
        return (plan, with_name("nohold", hold.name))
    except NoOpening as opening:
        return (plan, with_name("noopening", opening.name))
    except NoThing as thing:
        return (plan, with_name("nothing", thing.name))
    return (new, OK)


def answer_of(word, plan, values):
    """The answer to a question."""
    question = QUESTIONS[word]
    return question(plan, values)


class Desk:
    """A plan that is changed by deeds, which are undone and done again."""

    def __init__(self):
        self.plan = EMPTY
        # The plans ahead of deeds that can be undone, and behind those that can be done again, the next one last.
        self.past = []
        self.future = []
        # The plan ahead of the last change, None ahead of any.
        self.before = None

    def turn_to(self, plan):
        """Another plan stands."""
        self.before = self.plan
        self.plan = plan

    def do_deed(self, word, values):
        """A deed is tried."""
        new, answer = outcome(word, self.plan, values)
        if answer == OK:
            self.past.append(self.plan)
            self.future = []
            self.turn_to(new)
        return answer

    def undo(self):
        """The last deed is undone."""
        if not self.past:
            return NONE
        self.future.append(self.plan)
        self.turn_to(self.past.pop())
        return OK

    def redo(self):
        """The deed that was undone last is done again."""
        if not self.future:
            return NONE
        self.past.append(self.plan)
        self.turn_to(self.future.pop())
        return OK

    def say_words(self, word, words):
        """The answer to a row of a word and others behind it."""
        if word in DEED_FORMS:
            values = values_of(DEED_FORMS[word], words)
            return NOT_KNOWN if values is None else self.do_deed(word, values)
        if word in QUESTION_FORMS:
            values = values_of(QUESTION_FORMS[word], words)
            return NOT_KNOWN if values is None else answer_of(word, self.plan, values)
        return NOT_KNOWN

    def say(self, row):
        """The answer to a row, anything."""
        if not isinstance(row, str):
            return NOT_KNOWN
        if row == "undo":
            return self.undo()
        if row == "redo":
            return self.redo()
        if row == "changes":
            return tell_changes(self.before, self.plan)
        word, blank, rest = row.partition(" ")
        if word == "load":
            return self.do_deed(word, (rest,))
        return self.say_words(word, row.split(" ")[1:])
