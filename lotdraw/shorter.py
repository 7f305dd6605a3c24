"""Plans cut short where a rule's answer is settled."""

from lotdraw.plans import after, check_ends, drawn_on, ends, plan_from

REFUSED = "refused"
LET_BY = "let by"
UNSETTLED = "not settled"


def cut_short(plan, rule):
    check_ends(plan, rule)
    answers = answers_at(plan, rule)
    short = plan_from([count for count in drawn_on(plan) if count == (0, 0) or answers[count] == UNSETTLED])
    return (short, [end for end in ends(short) if answers[end] == REFUSED])


# Backwards, so that the answers at the counts to which a draw leads are there ahead of those at the one it is made at.
def answers_at(plan, rule):
    answers = {}
    for end in ends(plan):
        answers[end] = REFUSED if end in rule else LET_BY
    for count in reversed(drawn_on(plan)):
        answer = answers[after(count, "b")]
        answers[count] = answer if answer == answers[after(count, "g")] else UNSETTLED
    return answers
