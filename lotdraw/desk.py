"""A desk that keeps plans, and lots under way, by names."""

from lotdraw.answers import answer_of, show_count, show_fraction
from lotdraw.deeds import read_row
from lotdraw.errors import NoDraw, NoName
from lotdraw.plans import after, goes_on
from lotdraw.tellings import share_at
from lotdraw.texts import read_plan
from lotdraw.words import between, so_many, till, two_steps

LETTERS = "abcdefghijklmnopqrstuvwxyz"
MOST_LETTERS = 8


class Desk:
    def __init__(self):
        self.plans = {}
        self.lots = {}

    def say(self, row):
        read = read_row(row)
        deed = read[0]
        name = read[1]
        told = read[2]
        check_name(name)
        if deed.startswith("plan "):
            return self.put_plan(name, plan_by(deed, told))
        if deed == "lot":
            return self.begin_lot(name, told[0])
        if deed == "at":
            return show_count(self.lot_named(name)[1])
        if deed == "bad":
            return self.draw(name, "b")
        if deed == "good":
            return self.draw(name, "g")
        return answer_of(self.plan_named(name), deed, told)

    def put_plan(self, name, plan):
        self.plans[name] = plan
        return "ok"

    def begin_lot(self, name, plan_name):
        self.lots[name] = (self.plan_named(plan_name), (0, 0))
        return "ok"

    def draw(self, name, sign):
        lot = self.lot_named(name)
        plan = lot[0]
        if not goes_on(plan, lot[1]):
            raise NoDraw("the lot has come to an end")
        count = after(lot[1], sign)
        self.lots[name] = (plan, count)
        if goes_on(plan, count):
            return "on"
        return "end " + show_fraction(share_at(plan, count))

    def plan_named(self, name):
        if name not in self.plans:
            raise NoName("no plan has that name")
        return self.plans[name]

    def lot_named(self, name):
        if name not in self.lots:
            raise NoName("no lot has that name")
        return self.lots[name]


def check_name(name):
    if not 1 <= len(name) <= MOST_LETTERS or not all([sign in LETTERS for sign in name]):
        raise NoName("a name is not one to eight small letters")


def plan_by(deed, told):
    if deed == "plan many":
        return so_many(told[0])
    if deed == "plan till":
        return till(told[0], told[1])
    if deed == "plan steps":
        return two_steps(told[0], told[1], told[2], told[3])
    if deed == "plan between":
        return between(told[0], told[1], told[2], told[3], told[4])
    return read_plan(told[0])
