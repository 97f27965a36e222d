"""What a sensor may be, by the number of its fault.

0 is fine, 1 to 3 is late by so many ticks, 100 and u is stuck from tick u.
"""

from stickysensors.courses import agreeing, everywhere
from stickysensors.line import LAST_TICK, NOTHING

FINE = 0
STUCK = 100
LATENESSES = (1, 2, 3)


def is_fault(number):
    return number == FINE or number in LATENESSES or STUCK <= number <= STUCK + LAST_TICK


# A row of faults tells of each sensor; those that are fine have none.
def how_many_faults(faults):
    return len([fault for fault in faults if fault != FINE])


# Whether these readings, those that are none left out, are one number, or there are none.
def one_number(readings):
    return len(set([reading for reading in readings if reading != NOTHING])) < 2


# All ticks from which the sensor can be stuck, ascending.
def sticking_ticks(sensor):
    readings = sensor.readings
    return [tick for tick in range(sensor.first, len(readings)) if one_number(readings[tick:])]


# Whether it can have the fault by itself, whatever the courses are.
def can_have(sensor, fault):
    return fault < STUCK or fault - STUCK in sticking_ticks(sensor)


# What the sensor can be in a way, in the order of the ways.
def faults_of(sensor):
    # From the first of these ticks a stuck sensor asks for the least.
    stuck = [STUCK + tick for tick in sticking_ticks(sensor)[:1]]
    return [FINE] + stuck + list(LATENESSES)


# Whether what's read at the tick says anything, and if so, of which tick: a row of one or none.
def ticks_told_of(sensor, fault, tick):
    if fault >= STUCK:
        return [tick] if tick < fault - STUCK else []
    return [tick - fault] if tick - fault >= sensor.first else []


# For each tick the positions with which what the sensor read goes.
def positions_told(sensor, fault, size):
    allowed = [everywhere(size) for reading in sensor.readings]
    for tick in range(sensor.first, len(sensor.readings)):
        reading = sensor.readings[tick]
        if reading != NOTHING:
            for told in ticks_told_of(sensor, fault, tick):
                allowed[told] = allowed[told] & agreeing(reading, sensor.error)
    return allowed
