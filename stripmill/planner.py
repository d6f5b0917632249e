"""The plan that costs least."""

from stripmill.costs import cost_of
from stripmill.layout import Layout
from stripmill.needs import needs
from stripmill.plans import WAYS, fault, stages_above
from stripmill.works import check_above


def best(works, name, one, price):
    check_above(name, works.stages())
    # Once for all plans: what is needed is the same whatever the plan.
    needed = dict(needs(works, name, one))
    found = None
    for plan in plans_for(stages_above(works, name)):
        if fault(works, name, plan) is None:
            plan_cost = cost_of(works, Layout(works, name, needed, plan), price)
            # Not where it costs as little: the first one in order stays.
            if found is None or plan_cost < found[1]:
                found = (plan, plan_cost)
    return found


# All plans, faulty ones too, in the order of the first way that differs.
def plans_for(above):
    plans = [[]]
    for stage in above:
        longer = []
        for plan in plans:
            longer.extend([plan + [(stage, way)] for way in WAYS])
        plans = longer
    return plans
