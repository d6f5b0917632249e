"""The desk: a works and a plan handed in as texts, and the rows that are made by them."""

from stripmill.machine import made
from stripmill.texts import plan_read, works_read


def answer(text, plan_text, given, name, one):
    works = works_read(text)
    plan = plan_read(plan_text)
    return made(works, given, name, one, plan)
