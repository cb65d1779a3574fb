"""The problem of asks, why it has its given bars, and its certificates (part 8)."""

from versionjudge.grounds import grounds_of
from versionjudge.resolver import certificate_for, chosen_for, is_certificate_for


def problem_of(world, asks):
    return grounds_of(world, asks).problem


def causes(world, asks):
    return grounds_of(world, asks).causes


def answer(world, asks):
    return certificate_for(problem_of(world, asks))


def answer_holds(world, asks, thing):
    return is_certificate_for(problem_of(world, asks), thing)


def chosen(world, asks):
    return chosen_for(problem_of(world, asks))
