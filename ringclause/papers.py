"""Papers: lists of steps that lead from the clauses of a question to a clause that follows from them."""

from ringclause.chains import is_ring, total_of
from ringclause.errors import InvalidPivot, WrongStep
from ringclause.literals import clause_of, complement, is_clause, is_integer, is_literal, normal_form, opposite


def resolve(clause, pivot, other):
    """The clause that follows from two clauses, the pivot in the first and its complement in the other one."""
    first = clause_of(clause)
    second = clause_of(other)
    result = resolvent(first, pivot, second)
    if result is None:
        raise InvalidPivot(pivot)
    return result


def resolvent(first, pivot, second):
    """The result of resolving two clauses in normal form, None if the value `pivot` is not a pivot of them."""
    if not is_literal(pivot) or pivot not in first or complement(pivot) not in second:
        return None
    other = complement(pivot)
    left = [literal for literal in first if literal != pivot]
    right = [literal for literal in second if literal != other]
    return normal_form(left + right)


def first_wrong_step(question, paper):
    """The index of the first step of the paper that is wrong for the question, None if there is none."""
    _, wrong = followed(paper, question)
    return wrong


def check_paper(question, paper):
    """The outcome of a paper that is right for the question."""
    clauses, wrong = followed(paper, question)
    if wrong is not None:
        raise WrongStep(wrong)
    return clauses[-1]


def clauses_of(paper):
    """The clauses of the steps of a paper that is right for some question."""
    clauses, wrong = followed(paper, None)
    if wrong is not None:
        raise WrongStep(wrong)
    return tuple(clauses)


def givens(paper):
    """The clauses of the given steps of a paper, ascending, without duplicates."""
    clauses = clauses_of(paper)
    return tuple(sorted({clause for step, clause in zip(paper, clauses) if step[0] == "given"}))


def followed(paper, question):
    """The clauses of the steps before the first wrong one, and the index of that one, None if there is none.

    Without a question (None), every clause may be given.
    """
    clauses = []
    if not isinstance(paper, (list, tuple)) or len(paper) == 0:
        return (clauses, 0)
    for index, step in enumerate(paper):
        clause = clause_of_step(step, clauses, question)
        if clause is None:
            return (clauses, index)
        clauses.append(clause)
    return (clauses, None)


def clause_of_step(step, earlier, question):
    """The clause of a step behind steps with the earlier clauses, None if the step is wrong."""
    if not isinstance(step, tuple) or len(step) == 0 or not isinstance(step[0], str):
        return None
    word, *parts = step
    if word == "given" and len(parts) == 1:
        return given_clause(parts[0], question)
    if word == "either" and len(parts) == 1:
        return either_clause(parts[0])
    if word == "ring" and len(parts) == 2:
        return ring_clause(*parts)
    if word == "learn" and len(parts) == 3:
        return learn_clause(*parts, earlier)
    return None


def given_clause(clause, question):
    """The clause of a given step, None if the step is wrong."""
    known = is_clause(clause) if question is None else clause in question
    return clause if known else None


def either_clause(literal):
    """The clause of an either step, None if the step is wrong."""
    if not is_literal(literal):
        return None
    return clause_of([literal, complement(literal)])


def ring_clause(bounds, total):
    """The clause of a ring step, None if the step is wrong."""
    if not isinstance(bounds, tuple) or not is_ring(bounds) or not is_integer(total):
        return None
    if total != total_of(bounds) or total >= 0:
        return None
    return normal_form([opposite(bound) for bound in bounds])


def learn_clause(clause, first, rows, earlier):
    """The clause of a learn step, None if the step is wrong."""
    if not is_clause(clause) or not is_earlier(first, earlier) or not isinstance(rows, tuple):
        return None
    return clause if clause == rows_clause(first, rows, earlier) else None


def rows_clause(first, rows, earlier):
    """The clause that rows make of that of step `first`, None if a row is wrong."""
    current = earlier[first]
    for row in rows:
        current = row_clause(current, row, earlier)
        if current is None:
            return None
    return current


def row_clause(current, row, earlier):
    """The clause that a row makes of the current one, None if the row is wrong."""
    if not isinstance(row, tuple) or len(row) != 2:
        return None
    pivot, index = row
    if not is_earlier(index, earlier):
        return None
    return resolvent(current, pivot, earlier[index])


def is_earlier(value, earlier):
    """True if the value is the index of an earlier step."""
    return is_integer(value) and 0 <= value < len(earlier)
