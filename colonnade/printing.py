"""Printing: answers as lines of text."""

from colonnade.questions import written_item


def _has_words(question, what, column):
    return what in ("column", "least", "greatest") and question.shapes.domain_of_column(column) == "word"


def _line(texts, wordy):
    entries = [f"{text:<12}" if left else f"{text:>12}" for text, left in zip(texts, wordy)]
    return " | ".join(entries)


def answer_lines(question, answer):
    """Return a line with the items, a line for each row, and a line with the number of rows."""
    wordy = [_has_words(question, what, column) for what, column in question.tells]
    lines = [_line([written_item(what, column) for what, column in question.tells], wordy)]
    for row in answer:
        lines.append(_line([str(entry) for entry in row], wordy))
    return lines + [f"{len(answer)} rows"]
