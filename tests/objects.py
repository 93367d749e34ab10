"""Objects of every kind that may stand where the document says: any object."""

from numberbooks.histories import History
from numberbooks.logs import Log, LosingLog

# None of these is possible with size 10.
IMPOSSIBLE = ([("bob", 25), ("ann", 5), ("ann", 15)], [("ann", 5), ("ann", 5)], [("ann", 5), ("bob", 6)],
              [("bob", 25), ("bob", 15)])


def any_objects():
    """A few objects of each kind, also nested ones."""
    log = Log(10, ["ann", "bob"], [("ann", 5)])
    losing = LosingLog(1, ["ann"], [])
    history = History(10, ["ann", "bob"], [("take", "ann"), ("use", "ann")])
    return [
        0, 1, -1, 10 ** 59, -(10 ** 59), True, False, None,
        "", "ann", "5", "pushed", "a\nb", "x" * 4000,
        log, losing, history, [history], ("take", history), {"ann": history},
        [], [1], ["ann"], [True], [None], [log], [[]], [("ann", 5)], [["ann", 5]], [[[[[1]]]]], [0] * 4000,
        (), (1,), ("ann",), ("ann", 5), ("ann", True), (log, log), ("ann", 5, 6), ("pushed", []), ("twice", 0, 1),
        ((((("ann",),),),),), ("pushed", [(log, 1)]), ("twice", None, log), (None, None), (None, None, None),
        {}, {"ann": 5}, {"a": {"b": [log]}}, [{}], ({},), ({}, {}), ("pushed", {"a": 1}),
    ]
