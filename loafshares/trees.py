"""Doughs as trees of lines."""

from loafshares.fractions import fraction_text, over


def add_lines(book, name, blanks, shown, lines):
    """Add the lines of a dough's rows, and of those beneath them; shown are the doughs whose rows have lines."""
    shown.append(name)
    dough = book.dough(name)
    total = dough.total()
    for thing, parts in dough.rows():
        line = f"{blanks}{thing} {fraction_text(over(parts, total))}"
        if thing in shown:
            lines.append(f"{line} ..")
        else:
            lines.append(line)
            if thing in book.doughs():
                add_lines(book, thing, f"{blanks}  ", shown, lines)


def tree(book, dough):
    """The lines of a dough: its name, and beneath it its rows, each with those beneath it."""
    lines = [book.dough(dough).name()]
    add_lines(book, dough, "  ", [], lines)
    return lines
