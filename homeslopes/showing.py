"""Showing: pages and books as texts."""


def row_text(things):
    """The things parted by blanks."""
    return " ".join([str(thing) for thing in things])


def rows_text(rows):
    """The rows, each as row_text has it, parted by a comma and a blank, - for none."""
    return ", ".join([row_text(row) for row in rows]) if len(rows) > 0 else "-"


def page_text(page):
    """The page's text."""
    if page[0] == "rule":
        return row_text(page[:4] + (rows_text(page[4]),))
    return row_text(page)


def book_text(book):
    """The book's text, a line for each page."""
    return "\n".join([page_text(page) for page in book])
