"""What a line holds: its props, its sensors, its tick and the most."""

# How a prop goes into a tick, where it isn't told to which position.
HELD = -1
LOOSE = -2

# Stands among a sensor's readings where nothing was read.
NOTHING = -1

GREATEST_SIZE = 8
GREATEST_READING = 1000
LAST_TICK = 24

# The refusals.
OUT_OF_RANGE = -1
WRONG_TIME = -3
NOT_SO = -4
NO_PLACE = -5


class Prop:
    def __init__(self, size):
        self.size = size
        # Into tick 0 all props go loose.
        self.moves = [LOOSE]
        self.sensors = []


class Sensor:
    def __init__(self, prop, place, error):
        self.prop = prop
        # Among the sensors of its prop.
        self.place = place
        self.error = error
        self.first = 0
        # At tick 0 nothing is read.
        self.readings = [NOTHING]


class Line:
    def __init__(self):
        self.restart(0)

    def restart(self, most):
        self.most = most
        self.props = []
        self.sensors = []
        self.begun = False
        self.tick = 0

    def has_prop(self, number):
        return 0 <= number < len(self.props)

    def has_sensor(self, number):
        return 0 <= number < len(self.sensors)
