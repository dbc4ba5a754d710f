"""The statements that begin and end transactions and savepoints."""


class Control:
    """A transaction statement as it is written, which is its own plan.

    The action is "begin", "commit", "rollback", "savepoint", "release" or "rollback to"; the name is that of the
    savepoint, or the level of a `begin` in small letters.
    """

    family = "control"

    def __init__(self, action, name):
        self.action = action
        self.name = name

    def prepared(self, preparation):
        """Return the plan of the statement."""
        return self
