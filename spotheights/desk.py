"""Desks: a survey that is kept by written lines."""

from spotheights.deskanswers import ANSWERS
from spotheights.deskdeeds import DEEDS
from spotheights.desklines import read_line
from spotheights.errors import BadLine, BadName, BadText, Dependent, NotClosed, NothingToRedo, NothingToUndo
from spotheights.errors import NotPlain, NotTold, TooLarge, TooWide, UnknownName, UsedName
from spotheights.survey import Survey


class Desk:
    """A survey, and the lines that change it or ask it."""

    def __init__(self, dimension):
        self.survey = Survey(dimension)
        self.dimension = dimension

    def run(self, lines):
        """Do the lines in order, and give all that they write; if one is refused, nothing of them is done."""
        mark = self.survey.marked()
        written = []
        for at, line in enumerate(lines):
            try:
                written.extend(_done(self.survey, line, at + 1))
            except BadLine:
                self.survey.return_to(mark)
                raise
        return written


def _done(survey, line, number):
    """What the line writes when it is done."""
    try:
        command, things = read_line(line, survey.dimension)
        if command in DEEDS:
            act = DEEDS[command]
            return act(survey, things)
        answer = ANSWERS[command]
        return answer(survey, things)
    # Each handler has a name of its own for its error, so that no name in here stands for two things.
    except BadText as unread:
        raise BadLine(line, number, "text") from unread
    except BadName as unfit:
        raise BadLine(line, number, "name") from unfit
    except UsedName as used:
        raise BadLine(line, number, "used") from used
    except UnknownName as unknown:
        raise BadLine(line, number, "unknown") from unknown
    except Dependent as dependent:
        raise BadLine(line, number, "dependent") from dependent
    except TooWide as wide:
        raise BadLine(line, number, "wide") from wide
    except TooLarge as large:
        raise BadLine(line, number, "large") from large
    except NotTold as untold:
        raise BadLine(line, number, "untold") from untold
    except NothingToUndo as first:
        raise BadLine(line, number, "undo") from first
    except NothingToRedo as last:
        raise BadLine(line, number, "redo") from last
    except NotClosed as unclosed:
        raise BadLine(line, number, "closed") from unclosed
    except NotPlain as uneven:
        raise BadLine(line, number, "plain") from uneven
