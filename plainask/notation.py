"""The text of a tree."""

from plainask.errors import BadRow
from plainask.trees import Tree


def cell_text(cell):
    """Return the text of the cell."""
    return " ".join([str(standing) for standing in cell])


def row_text(rows):
    """Return the text of the end, or of the question without what stands behind its branches."""
    if rows[0] == "end":
        return f"end {rows[1]}"
    cells = " / ".join([cell_text(cell) for cell, behind in rows[2]])
    return f"ask {rows[1]}: {cells}"


def write_tree(tree):
    """Return the text of the tree."""
    written = []
    waiting = [tree.rows]
    while waiting:
        rows = waiting.pop()
        written.append(row_text(rows))
        if rows[0] == "ask":
            behind = [branch[1] for branch in rows[2]]
            waiting.extend(behind[::-1])
    return "\n".join(written)


def number_of(word):
    """Return the number that the word is; None if it is none."""
    # Python takes other characters for digits too.
    if not word.isascii() or not word.isdigit() or (len(word) > 1 and word[0] == "0"):
        return None
    return int(word)


def numbers_of(words):
    """Return the numbers that the words are; None if a word is none."""
    numbers = [number_of(word) for word in words]
    if None in numbers:
        return None
    return numbers


def is_ascending(numbers):
    """Tell whether each number is greater than the one before it."""
    return all([before < after for before, after in zip(numbers, numbers[1:])])


def parsed_cells(text):
    """Return the cells of a question row; None if the text is not that of at least two cells."""
    cells = [numbers_of(cell.split(" ")) for cell in text.split(" / ")]
    if None in cells or len(cells) < 2 or not all([is_ascending(cell) for cell in cells]):
        return None
    standings = [standing for cell in cells for standing in cell]
    if len(set(standings)) < len(standings):
        return None
    return cells


def parsed_end(row):
    """Return the outcome of the row; None if the row is not that of an end."""
    if not row.startswith("end "):
        return None
    return number_of(row.removeprefix("end "))


def parsed_question(row):
    """Return the party and the cells of the row; None if the row is not that of a question."""
    if not row.startswith("ask "):
        return None
    before, colon, after = row.removeprefix("ask ").partition(": ")
    party = number_of(before)
    cells = parsed_cells(after)
    if party is None or cells is None:
        return None
    return (party, cells)


class Reader:
    """Puts a tree together, row by row."""

    def __init__(self):
        # The questions whose branches are not complete, each with the rows behind its branches so far.
        self.waiting = []
        self.complete = None

    def accept(self, row):
        """Take the next row; tell whether it has a place in the tree."""
        if self.complete is not None:
            return False
        question = parsed_question(row)
        if question is not None:
            party, cells = question
            self.waiting.append((party, cells, []))
            return True
        outcome = parsed_end(row)
        if outcome is None:
            return False
        self.put(("end", outcome))
        return True

    def put(self, rows):
        """Put complete rows behind the next branch, and so on upwards where that was the last branch."""
        while self.waiting:
            party, cells, behind = self.waiting[-1]
            behind.append(rows)
            if len(behind) < len(cells):
                return
            self.waiting.pop()
            rows = ("ask", party, list(zip(cells, behind)))
        self.complete = rows


def read_tree(text):
    """Return the tree of which this is the text."""
    reader = Reader()
    rows = text.split("\n")
    for at, row in enumerate(rows):
        if not reader.accept(row):
            raise BadRow(at + 1)
    if reader.complete is None:
        raise BadRow(len(rows) + 1)
    return Tree(reader.complete)
