"""Plans: questions with openings and a way of working them out."""


class Plan:
    """A question, openings for it, whether blocks are passed by, and the size of the vectors."""

    def __init__(self, question, openings, *, passing=True, size=8):
        self.question = question
        self.openings = dict(openings)
        self.passing = passing
        self.size = size

    def lines(self):
        """Return the lines that tell the plan."""
        lines = [f"question: {self.question.text}"]
        lines.extend([f"{book}: {self.openings[book]}" for book in sorted(self.openings)])
        passing = "yes" if self.passing else "no"
        return lines + [f"passing: {passing}", f"size: {self.size}"]


def plain_plan(question):
    """Return the plan that opens all books first, passes nothing by and takes single rows."""
    openings = {book: "scan" for book in question.books_named()}
    return Plan(question, openings, passing=False, size=1)
