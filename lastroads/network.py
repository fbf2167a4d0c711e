"""The interface: the calls on one object in a list, and their answers in another."""

from lastroads.operations import CREATE, OPERATIONS, PARAMETER_COUNTS, create
from lastroads.refusals import NoInstance, Refusal


# A create that fails has to leave the instance as it is, so it is kept beside the calls.
class Session:
    def __init__(self):
        self.instance = None


def run_operation(operation, instance, parameters):
    if len(parameters) == 0:
        return operation(instance)
    if len(parameters) == 1:
        return operation(instance, parameters[0])
    if len(parameters) == 2:
        return operation(instance, parameters[0], parameters[1])
    return operation(instance, parameters[0], parameters[1], parameters[2], parameters[3])


def run_call(session, number, parameters):
    if number == CREATE:
        session.instance = create(parameters[0])
        return [0]
    if session.instance is None:
        raise NoInstance()
    return run_operation(OPERATIONS[number], session.instance, parameters)


def answer_call(session, number, parameters):
    try:
        return run_call(session, number, parameters)
    except Refusal as refusal:
        return [refusal.code]


def answers(calls):
    session = Session()
    answered = []
    position = 0
    while position < len(calls):
        number = calls[position]
        first = position + 1
        position = first + PARAMETER_COUNTS[number]
        answer = answer_call(session, number, calls[first:position])
        answered.append(len(answer))
        answered.extend(answer)
    return answered
