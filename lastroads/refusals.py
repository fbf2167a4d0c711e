"""The refusals: one class for each error code of the document."""


class Refusal(Exception):
    def __init__(self, code):
        self.code = code


class NoInstance(Refusal):
    def __init__(self):
        Refusal.__init__(self, -11)


# No such place or road.
class NotThere(Refusal):
    def __init__(self):
        Refusal.__init__(self, -2)


# A parameter outside its range, or a road from a place to itself.
class OutOfRange(Refusal):
    def __init__(self):
        Refusal.__init__(self, -22)


# The road is blocked, or not blocked, already.
class AlreadySo(Refusal):
    def __init__(self):
        Refusal.__init__(self, -17)


class TooManyRoads(Refusal):
    def __init__(self):
        Refusal.__init__(self, -28)


# What is asked for isn't there: a place isn't reachable or has a store, or there is
# no road, plan or place to choose.
class Undefined(Refusal):
    def __init__(self):
        Refusal.__init__(self, -33)
