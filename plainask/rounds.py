"""Rounds: the parties answer the questions of a tree, honestly or not, or stay silent."""

from plainask.checks import is_natural
from plainask.errors import BadAnswer, BadTurn
from plainask.trees import honest_branch

PATIENCE = 3
FIRST = 0


class Turn:
    """Leaves a round as it was before the block if an error leaves the block."""

    def __init__(self, game):
        self.game = game

    def __enter__(self):
        game = self.game
        self.place = game.place
        self.path = game.path
        self.history = game.history
        self.silences = game.silences
        self.party = game.party
        self.cells = game.cells
        self.outcome = game.outcome
        return self

    def __exit__(self, kind, value, trace):
        if kind is not None:
            self.game.place = self.place
            self.game.path = self.path
            self.game.history = self.history
            self.game.silences = self.silences
            self.game.party = self.party
            self.game.cells = self.cells
            self.game.outcome = self.outcome


class Round:
    """A round of questions, from the root of a tree to one of its ends."""

    def __init__(self, tree, *, patience=PATIENCE, default=FIRST):
        self.patience = patience
        self.default = default
        self.path = ()
        self.history = ()
        self.arrive(tree.rows)

    def arrive(self, rows):
        """Come to a question or to an end."""
        self.place = rows
        self.silences = 0
        if rows[0] == "end":
            self.party = None
            self.cells = ()
            self.outcome = rows[1]
        else:
            self.party = rows[1]
            self.cells = tuple([branch[0] for branch in rows[2]])
            self.outcome = None

    def go(self, branch, said):
        """Go along a branch of the current question."""
        self.path = (*self.path, branch)
        self.history = (*self.history, (self.party, branch, said))
        self.arrive(self.place[2][branch][1])

    def say(self, party, branch):
        """Take an answer; return the outcome, None before the end."""
        # In Python, True is the party 1; after the end, no party is one that is asked.
        if not is_natural(party) or party != self.party:
            raise BadAnswer(self.path)
        if not is_natural(branch) or branch >= len(self.cells):
            raise BadAnswer(self.path)
        self.go(branch, True)
        return self.outcome

    def wait(self):
        """Take a silence; tell whether the default branch was taken."""
        if self.party is None:
            raise BadAnswer(self.path)
        self.silences += 1
        if self.silences < self.patience:
            return False
        last = len(self.cells) - 1
        self.go(self.default if self.default < last else last, False)
        return True

    def answer(self, told):
        """Take an answer or, if it is None, a silence."""
        if told is None:
            self.wait()
        else:
            party, branch = told
            self.say(party, branch)

    def take(self, answers):
        """Take all the answers, or none of them; return the outcome, None before the end."""
        with Turn(self):
            for index, told in enumerate(answers):
                try:
                    self.answer(told)
                except BadAnswer as refused:
                    raise BadTurn(index) from refused
        return self.outcome

    def honest(self, standing):
        """Return the number of the branch that is the honest answer to the current question."""
        branch = None
        if self.party is not None:
            branch = honest_branch(self.place, standing)
        if branch is None:
            raise BadAnswer(self.path)
        return branch
