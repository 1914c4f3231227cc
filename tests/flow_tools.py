"""What a flow tells, and calls of its methods, for several tests."""

import random

from samples import raised


def standing(flow):
    """Return all that a flow tells about its present state."""
    return (
        flow.setting_now, flow.amounts_now, flow.inside_now, list(flow.events()), len(flow), flow.amounts_at_end(),
        raised(flow.numbers_to_come) or flow.numbers_to_come(),
    )


def slow_standing(slow):
    """Return the same of the slow model."""
    flow = slow.state["flow"]
    end = slow.at_end(random.Random(1))
    come = sorted(number for _, number in end.state["events"][len(slow.state["events"]):])
    return (
        flow.setting, flow.amounts, slow.inside_now(), slow.state["events"], len(flow.inside),
        end.state["flow"].amounts, ("ReturnInside", {}) if slow.has_return() else come,
    )


def do(flow, name, values):
    """Call a method of a flow by its name, return its result or the name of its error."""
    told = []
    error = raised(lambda: told.append(getattr(flow, name)(*values)))
    return told[0] if error is None else error[0]


def after_calls(flow, calls):
    """Return a flow after calls, each the tuple of the name of a method and its arguments."""
    for name, values in calls:
        getattr(flow, name)(*values)
    return flow
