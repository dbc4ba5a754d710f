"""The statements that create tables as they are."""

from cursorhouse.values import quoted


def dump_lines(tables):
    """Return the list of the statements for a dict of tables."""
    lines = ["BEGIN TRANSACTION;"]
    named = {table.form.name: table for table in tables.values()}
    for name in sorted(list(named)):
        lines.append(f"CREATE TABLE {named[name].form.text};")
        for row in named[name].ordered_rows():
            cells = ",".join([quoted(value) for value in row[1:]])
            lines.append(f'INSERT INTO "{name}" VALUES({cells});')
    lines.append("COMMIT;")
    return lines
