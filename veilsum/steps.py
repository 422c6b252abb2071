"""Reckonings: which of them are right, what chance and inputs they use, and the numbers they make."""

from veilsum.errors import BadInputs, BadSteps

MOST_STEPS = 24

# What stands behind the word of a step.
FORMS = {
    "in": ("hand",),
    "fix": ("number",),
    "sum": ("step", "step"),
    "less": ("step", "step"),
    "by": ("step", "number"),
    "mul": ("step", "step"),
    "anew": ("step",),
    "open": ("step",),
}


def is_number(table, value):
    return 0 <= value < table.prime


def are_numbers(table, values):
    return all([is_number(table, value) for value in values])


def fits(table, place, kind, value):
    if kind == "hand":
        return 1 <= value <= table.hands
    if kind == "number":
        return is_number(table, value)
    return 0 <= value < place


def is_right_step(table, place, step):
    kinds = FORMS.get(step[0])
    if kinds is None or len(step) != len(kinds) + 1:
        return False
    return all([fits(table, place, kind, value) for kind, value in zip(kinds, step[1:])])


def right(table, steps):
    if len(steps) == 0 or len(steps) > MOST_STEPS:
        return False
    return all([is_right_step(table, place, step) for place, step in enumerate(steps)])


def refuse_steps(table, steps):
    if not right(table, steps):
        raise BadSteps("the reckoning is not right")


def all_hands(table):
    return list(range(1, table.hands + 1))


def dealers(table, step):
    if step[0] == "in":
        return [step[1]]
    if step[0] in ("mul", "anew"):
        return all_hands(table)
    return []


def needs(table, steps):
    refuse_steps(table, steps)
    return table.few * sum([len(dealers(table, step)) for step in steps])


def uses(steps, hand):
    return steps.count(("in", hand))


def are_inputs(table, steps, inputs):
    if len(inputs) != table.hands:
        return False
    for hand, own in enumerate(inputs, start=1):
        if len(own) < uses(steps, hand) or not are_numbers(table, own):
            return False
    return True


def refuse_inputs(table, steps, inputs):
    if not are_inputs(table, steps, inputs):
        raise BadInputs("the inputs do not suit the reckoning")


def input_at(steps, place, inputs):
    hand = steps[place][1]
    return inputs[hand - 1][uses(steps[:place], hand)]


def reckoned(table, step, before):
    # One hand's shares are reckoned on like the numbers themselves, so before may be either.
    word = step[0]
    if word == "fix":
        return step[1]
    first = before[step[1]]
    if word == "sum":
        return (first + before[step[2]]) % table.prime
    if word == "less":
        return (first - before[step[2]]) % table.prime
    if word == "by":
        return first * step[2] % table.prime
    if word == "mul":
        return first * before[step[2]] % table.prime
    return first


def plain(table, steps, inputs):
    refuse_steps(table, steps)
    refuse_inputs(table, steps, inputs)
    made = []
    for place, step in enumerate(steps):
        if step[0] == "in":
            made.append(input_at(steps, place, inputs))
        else:
            made.append(reckoned(table, step, made))
    return made
