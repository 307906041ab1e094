"""Runs that go wrong, beside the same run with one event left out, doubled or changed."""

import unittest

from widerkeys.runs import shows_wrong

from players import ADD, DEEDS, DROP_NARROW, FILL, RELEASE, SHOP, begin, steps_of, world_of

SPAN = (1, 400)
ELDER = ("wide", (("id", "narrow", DEEDS),), (("id", "narrow", "cut", "", 1),))

# Edition 1 writes wide first and reads wide.
LATE = world_of(ELDER, ("wide", (("id", "wide", DEEDS),), (("id", "wide first", "refuse", "", 1),)))

# Edition 1 copies id, which edition 0 sets, to ref.
COPIER = world_of(
    ELDER,
    ("wide", (("id", "narrow", ()), ("ref", "wide", ("show",))), (("ref", "both", "refuse", "id", 1),)),
    columns=("id", "ref"),
)


def put(edition, row, number):
    return ("set", "shop", edition, "id", row, number)


def late(number):
    return ("come", "shop", 1, "id", 0, number)


# In each of these runs no event can be left out: world, span, run.
RUNS = {
    "missing": (SHOP, (1, 200), begin(ADD, DROP_NARROW)),
    "missing amid": (SHOP, (1, 200), (("begin", RELEASE),)),
    "none": (LATE, SPAN, begin(ADD) + (("begin", RELEASE), put(0, 0, 5), ("read", "shop", 1, "id", 0))),
    "old": (
        SHOP,
        (1, 200),
        begin(ADD)
        + (("begin", RELEASE), put(1, 0, 5), put(0, 0, 7), ("end", RELEASE), ("begin", FILL), ("visit", 0))
        + (("end", FILL), ("begin", RELEASE), ("read", "shop", 2, "id", 0)),
    ),
    "show": (LATE, SPAN, (put(0, 0, 300), ("read", "shop", 0, "id", 0))),
    "match": (LATE, SPAN, (put(0, 0, 300), put(0, 1, 44), ("match", "shop", 0, "id", 0, "id", 1))),
    "order": (LATE, SPAN, (put(0, 0, 300), put(0, 1, 45), ("order", "shop", 0, "id", 0, 1))),
    "refused": (LATE, SPAN, begin(ADD) + (("begin", RELEASE), put(1, 0, 300), late(300))),
    "show copied": (
        COPIER,
        SPAN,
        begin(ADD, ("add", "ref"))
        + (("begin", RELEASE), put(0, 0, 300), ("copy", "shop", 1, "ref", 0, 0), ("read", "shop", 1, "ref", 0)),
    ),
}


class VariantsTest(unittest.TestCase):
    def shows(self, name, run):
        world, span, whole = RUNS[name]
        return shows_wrong(world, span, steps_of(whole), run)

    def test_the_runs(self):
        for name, (_, _, run) in RUNS.items():
            self.assertIs(self.shows(name, run), True, name)

    def test_the_first_events_alone(self):
        for name, (_, _, run) in RUNS.items():
            for many in range(len(run)):
                self.assertIs(self.shows(name, run[:many]), False, (name, many))

    def test_one_event_left_out(self):
        for name, (_, _, run) in RUNS.items():
            for index in range(len(run)):
                self.assertIs(self.shows(name, run[:index] + run[index + 1 :]), False, (name, run[index]))

    def test_one_event_doubled(self):
        for name, (_, _, run) in RUNS.items():
            for index, event in enumerate(run):
                # What was done to a cell can be done again; a late number comes once, a step is done once.
                wanted = event[0] in ("set", "copy", "visit") and index < len(run) - 1
                self.assertIs(self.shows(name, run[: index + 1] + run[index:]), wanted, (name, event))

    def test_two_events_the_other_way_about(self):
        for name, (_, _, run) in RUNS.items():
            turned = run[:-2] + (run[-1:] + run[-2:-1])
            if len(run) > 1:
                self.assertIs(self.shows(name, turned), False, name)

    def test_a_list_in_the_place_of_a_tuple(self):
        for name, (_, _, run) in RUNS.items():
            self.assertIs(self.shows(name, list(run)), False, name)
            for index, event in enumerate(run):
                self.assertIs(self.shows(name, run[:index] + (list(event),) + run[index + 1 :]), False, name)

    def test_other_numbers(self):
        for name, index, event, wanted in (
            ("old", 3, put(0, 0, 5), False),
            ("old", 3, put(0, 0, 200), True),
            ("old", 3, put(0, 0, 201), False),
            ("old", 2, put(1, 0, 7), False),
            ("show", 0, put(0, 0, 44), False),
            ("show", 0, put(0, 0, 256), True),
            ("show", 0, put(0, 0, 255), False),
            ("match", 1, put(0, 1, 45), False),
            ("match", 1, put(0, 1, 300), False),
            ("match", 0, put(0, 0, 44), False),
            ("order", 1, put(0, 1, 44), False),
            ("order", 1, put(0, 1, 301), False),
            ("order", 1, put(0, 1, 299), False),
            ("order", 0, put(0, 0, 256), True),
            ("refused", -1, late(299), False),
            ("refused", -2, put(1, 0, 299), False),
            ("show copied", -3, put(0, 0, 44), False),
        ):
            run = list(RUNS[name][2])
            run[index] = event
            self.assertIs(self.shows(name, tuple(run)), wanted, (name, event))

    def test_other_steps_of_the_plan(self):
        for name, (world, span, run) in RUNS.items():
            plan = steps_of(run)
            self.assertTrue(shows_wrong(world, span, plan + (("grow", 500),), run), name)
            if plan:
                self.assertFalse(shows_wrong(world, span, plan[:-1], run), name)
                self.assertFalse(shows_wrong(world, span, (("grow", 500),) + plan, run), name)
                grown = (("begin", ("grow", 500)),) + run
                self.assertTrue(shows_wrong(world, span, (("grow", 500),) + plan, grown), name)

    def test_a_fill_that_mends_it(self):
        # The wide side is empty, and so is read; once it is filled it is not.
        run = begin(ADD) + (put(0, 0, 5), ("begin", FILL), ("visit", 0), ("end", FILL), ("begin", RELEASE))
        read = ("read", "shop", 1, "id", 0)
        plan = (ADD, FILL, RELEASE)
        self.assertFalse(shows_wrong(LATE, SPAN, plan, run + (read,)))
        self.assertFalse(shows_wrong(LATE, SPAN, plan, run[:3] + run[4:] + (read,)))
        later = run[:1] + run[2:3] + run[4:] + (put(0, 0, 5), read)
        self.assertTrue(shows_wrong(LATE, SPAN, plan, later))


if __name__ == "__main__":
    unittest.main()
