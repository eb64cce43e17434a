"""The writing of items as a text."""


def write_items(rows):
    """Return the text of a list of items, one in a line, with a newline at the end of each."""
    return "".join([f"{key} {group} {weight} {amount}\n" for key, group, weight, amount in rows])
