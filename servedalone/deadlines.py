"""Deadlines: in which order requests advance so that each has its advances in time."""


def deadline_plan(needs):
    """A plan that gives each request its advances in time and None; or None and the deadline that cannot be kept."""
    ordered = sorted([(by, ticket, many) for ticket, many, by in needs])
    used = 0
    for by, _, many in ordered:
        used += many
        if used > by:
            return None, by
    return tuple([(ticket, many) for _, ticket, many in ordered]), None
