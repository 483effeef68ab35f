"""A run over several texts, by their names: planned for each, and done on all of them or on none."""

from rowblade.errors import NotThat
from rowblade.plans import done, plan


def plan_all(program, texts):
    plans = {}
    for name in texts:
        plans[name] = plan(program, texts[name])
    return plans


def done_all(plans, texts):
    if any([name not in texts for name in plans]):
        raise NotThat("a plan has no text")
    made = {}
    for name in texts:
        if name not in plans:
            raise NotThat("a text has no plan")
        made[name] = done(plans[name], texts[name])
    return made
