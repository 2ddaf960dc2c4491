"""What holds for all runs, and for all runs with a state: the tests of each run ask for it."""


def check_ticks(case, make, rows):
    """A run's ticks come when they are asked for; two runs of one thing go on alone."""
    wanted = [run_tick for run_tick in make().ticks(rows)]
    case.assertEqual(len(wanted), len(rows))
    case.assertTrue(all(type(shown) is tuple for shown in wanted))
    run = make()
    case.assertEqual([run.tick(row) for row in rows], wanted)
    case.assertEqual(list(make().ticks(tuple(rows))), wanted)
    case.assertEqual(list(make().ticks(())), [])
    run = make()
    told = run.ticks(list(rows))
    case.assertEqual(next(told), wanted[0])
    case.assertEqual(run.tick(rows[1]), wanted[1])
    # The generator goes on with its own next row, which is the row number 1.
    other = make()
    for row in [rows[0], rows[1]] + rows[1:]:
        last = other.tick(row)
    case.assertEqual(list(told)[-1], last)
    one, two = make(), make()
    shown = []
    for at, row in enumerate(rows):
        shown.append(one.tick(row))
        two.tick(rows[-1 - at])
    case.assertEqual(shown, wanted)


def check_state(case, make, rows):
    """A run's state: it is told, set, resumed, kept by trials and by tried."""
    half = len(rows) // 2
    run = make()
    first = run.state
    case.assertIs(type(first), tuple)
    list(run.ticks(rows[:half]))
    middle = run.state
    rest = [run.tick(row) for row in rows[half:]]
    end = run.state
    other = make()
    other.state = middle
    case.assertEqual(other.state, middle)
    case.assertEqual(list(other.ticks(rows[half:])), rest)
    case.assertEqual(other.state, end)
    case.assertIsNone(other.resume(middle))
    case.assertEqual(other.state, middle)
    case.assertEqual(other.tried(rows[half:]), tuple(rest))
    case.assertEqual(other.tried(tuple(rows[half:])), tuple(rest))
    case.assertEqual(other.tried(()), ())
    case.assertEqual(other.state, middle)
    case.assertEqual(list(other.ticks(rows[half:])), rest)
    case.assertEqual(make().state, first)
    check_trial(case, make, rows, middle)


def check_trial(case, make, rows, middle):
    run = make()
    run.state = middle
    with run.trial() as held:
        case.assertIs(held, run)
        list(held.ticks(rows))
        with held.trial():
            held.tick(rows[0])
            inner = run.state
            run.tick(rows[-1])
            run.state = middle
        after = run.state
    case.assertEqual(run.state, middle)
    one = make()
    one.state = middle
    list(one.ticks(rows))
    case.assertEqual(one.state, after)
    one.tick(rows[0])
    case.assertEqual(one.state, inner)
    try:
        with run.trial() as held:
            held.tick(rows[0])
            raise KeyError("left")
    except KeyError:
        pass
    case.assertEqual(run.state, middle)
    trial = run.trial()
    run.tick(rows[0])
    entered = run.state
    with trial as held:
        held.tick(rows[1])
    case.assertEqual(run.state, entered)


def check_no_state(case, run):
    for name in ("state", "resume", "trial", "tried", "entries"):
        case.assertFalse(hasattr(run, name), name)
