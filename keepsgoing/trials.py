"""Trials: ticks of a run behind which its state is what it was."""


class Trial:
    """What a run's trial() gives; the run keeps its state in its attribute contents."""

    def __init__(self, run):
        self.run = run
        self.mark = None

    def __enter__(self):
        self.mark = Mark(self.run.contents, self.mark)
        return self.run

    def __exit__(self, kind, value, trace):
        run = self.run
        run.contents = self.mark.contents
        self.mark = self.mark.before


class Mark:
    """The contents at the time when a trial was entered, and the mark ahead of it."""

    def __init__(self, contents, before):
        self.contents = contents
        self.before = before
