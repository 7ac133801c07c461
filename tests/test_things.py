"""Point 8, the interface's section plugtree/things.py, and both with point 9 against a second writing."""

import random

from plugtree.errors import BadPlan, NoEnd
from plugtree.halves import asked, cut, heard, in_half, out_half, went
from plugtree.requests import request_bytes
from plugtree.things import Thing
from tests.base import SIXTY, Case
from tests.built import EIGHT, FOUR, HUB, HUB_OF_FOUR, NO_ENDS, ONE_IN, ONE_OUT, set_up_thing, want
from tests.said_plans import good_plans
from tests.said_thing import SaidThing
from tests.test_requests import REQUESTS
from tests.watch import picture

PLANS = (NO_ENDS, HUB, ONE_IN, ONE_OUT, FOUR, HUB_OF_FOUR, EIGHT)
WAYS = ("in", "out")
BAD_PLANS = (
    ((65536, 0, 0, ()), 0), ((0, -1, 0, ()), 1), ((0, 0, 5, ()), 2), ((0, 0, 0, ((0, "in", "bulk", 8, 0),)), 3),
    ((0, 0, 0, ((1, "in", "bulk", 8, 0), (1, "in", "bulk", 8, 0))), 4),
    ((-1, -1, -1, ((9, "in", "bulk", 8, 0),)), 0),
)


def places(plan):
    return [end[:2] for end in plan[3]]


def all_places():
    return [(endpoint, way) for endpoint in (-1, 0, 1, 2, 3, 7, 8, 15, 16, SIXTY) for way in WAYS]


class Levels(Case):
    def has_no_halves(self, thing):
        for endpoint, way in all_places():
            self.refuses(NoEnd, thing.half, endpoint, way)
            self.refuses(NoEnd, thing.stall, endpoint, way)
            self.refuses(NoEnd, thing.load, endpoint, (1,))
            self.refuses(NoEnd, thing.let, endpoint, 1)
        for endpoint in list(range(1, 16)) + [16, -1, SIXTY]:
            self.assertIsNone(thing.hear_in(endpoint))
            self.assertIsNone(thing.hear_out(endpoint, 0, (1,)))
            self.assertIsNone(thing.hear_went(endpoint))

    def has_fresh_halves(self, thing, plan):
        for place in all_places():
            if place in places(plan):
                self.assertEqual(in_half() if place[1] == "in" else out_half(), thing.half(*place))
            else:
                self.refuses(NoEnd, thing.half, *place)
                self.refuses(NoEnd, thing.stall, *place)

    def test_begins_without_number_and_not_set_up(self):
        for plan in PLANS:
            thing = Thing(plan=plan)
            self.assertEqual((0, 0), (thing.number, thing.level))
            self.assertEqual((int, int), (type(thing.number), type(thing.level)))
            self.has_no_halves(thing)

    def test_set_up_and_not(self):
        for plan in PLANS:
            thing = Thing(plan)
            want(thing, ("set", 1))
            self.assertEqual((0, 1), (thing.number, thing.level))
            self.has_fresh_halves(thing, plan)
            want(thing, ("set", 0))
            self.assertEqual((0, 0), (thing.number, thing.level))
            self.has_no_halves(thing)

    def test_level_1_once_more_gives_fresh_halves(self):
        for plan in PLANS:
            thing = set_up_thing(plan, 7)
            self.use_all(thing, plan)
            want(thing, ("set", 1))
            self.assertEqual((7, 1), (thing.number, thing.level))
            self.has_fresh_halves(thing, plan)

    def test_restart(self):
        for plan in PLANS:
            thing = set_up_thing(plan, 7)
            self.use_all(thing, plan)
            thing.hear_setup(request_bytes(("device",)))
            self.assertIsNone(thing.restart())
            self.assertEqual((0, 0), (thing.number, thing.level))
            self.has_no_halves(thing)
            self.assertEqual(("nak",), thing.hear_in(0))
            want(thing, ("set", 1))
            self.has_fresh_halves(thing, plan)

    def use_all(self, thing, plan):
        for endpoint, way in places(plan):
            if way == "in":
                thing.load(endpoint, (1, 2, 3))
                thing.hear_went(endpoint)
            else:
                thing.let(endpoint, 3)
                self.assertEqual("ack", thing.hear_out(endpoint, 0, (9,)))
            thing.stall(endpoint, way)

    def test_a_number_alone_sets_nothing_up(self):
        thing = Thing(FOUR)
        want(thing, ("number", 9))
        self.assertEqual((9, 0), (thing.number, thing.level))
        self.has_no_halves(thing)

    def test_each_good_plan_is_taken(self):
        for plan in good_plans()[::5]:
            self.has_fresh_halves(set_up_thing(plan), plan)

    def test_bad_plans(self):
        for plan, at in BAD_PLANS:
            self.assertEqual(at, self.refuses(BadPlan, Thing, plan).at)


class Halves(Case):
    def test_load_let_stall_and_half(self):
        for plan in PLANS:
            thing = set_up_thing(plan)
            for number, way, _, size, _ in plan[3]:
                if way == "in":
                    self.assertIsNone(thing.load(endpoint=number, data=tuple(range(2 * size))))
                    thing.load(number, (5,))
                    pieces = tuple(cut(tuple(range(2 * size)), size) + cut((5,), size))
                    self.assertEqual((0, False, pieces), thing.half(number, "in"))
                else:
                    self.assertIsNone(thing.let(endpoint=number, many=2))
                    thing.let(number, 0)
                    thing.let(number, 5)
                    self.assertEqual((0, False, 7, ()), thing.half(number, "out"))
                before = thing.half(endpoint=number, way=way)
                self.assertIsNone(thing.stall(endpoint=number, way=way))
                self.assertEqual((before[0], True) + before[2:], thing.half(number, way))

    def test_of_the_other_way_there_is_none(self):
        thing = set_up_thing(ONE_IN)
        self.refuses(NoEnd, thing.let, 1, 1)
        self.refuses(NoEnd, thing.half, 1, "out")
        self.refuses(NoEnd, thing.stall, 1, "out")
        self.assertIsNone(thing.hear_out(1, 0, ()))
        thing = set_up_thing(ONE_OUT)
        self.refuses(NoEnd, thing.load, 1, ())
        self.refuses(NoEnd, thing.half, 1, "in")
        self.refuses(NoEnd, thing.stall, 1, "in")
        self.assertIsNone(thing.hear_in(1))

    def test_what_is_done_at_one_turns_nothing_at_the_others(self):
        for plan in (FOUR, HUB_OF_FOUR, EIGHT):
            for place in places(plan):
                thing = set_up_thing(plan)
                if place[1] == "in":
                    thing.load(place[0], (1, 2))
                    thing.hear_in(place[0])
                    thing.hear_went(place[0])
                else:
                    thing.let(place[0], 1)
                    thing.hear_out(place[0], 0, (4,))
                thing.stall(*place)
                for other in places(plan):
                    fresh = in_half() if other[1] == "in" else out_half()
                    self.assertEqual(other != place, thing.half(*other) == fresh)

    def test_turns_are_those_of_the_halves(self):
        drawn = random.Random(8)
        for plan in (FOUR, EIGHT):
            thing = set_up_thing(plan)
            half = {place: thing.half(*place) for place in places(plan)}
            for _ in range(600):
                place = drawn.choice(places(plan))
                endpoint, way = place
                mark, data = drawn.randrange(2), tuple(drawn.randrange(256) for _ in range(drawn.randrange(4)))
                if way == "out":
                    half[place], answer = heard(half[place], mark, data)
                    self.assertEqual(answer, thing.hear_out(endpoint=endpoint, mark=mark, data=data))
                    if drawn.random() < 0.4:
                        thing.let(endpoint, 1)
                        half[place] = half[place][:2] + (half[place][2] + 1,) + half[place][3:]
                else:
                    self.assertEqual(asked(half[place]), thing.hear_in(endpoint=endpoint))
                    if drawn.random() < 0.5:
                        self.assertIsNone(thing.hear_went(endpoint=endpoint))
                        half[place] = went(half[place])
                    if drawn.random() < 0.3:
                        size = [end[3] for end in plan[3] if end[:2] == place][0]
                        thing.load(endpoint, data)
                        half[place] = half[place][:2] + (half[place][2] + tuple(cut(data, size)),)
                for each in half:
                    self.assertEqual(half[each], thing.half(*each))


class Twins(Case):
    def test_a_twin_is_like_it_and_goes_its_own_way(self):
        drawn = random.Random(80)
        for plan in PLANS:
            for _ in range(20):
                thing = Thing(plan)
                turn_about(drawn, [thing], plan, 30)
                twin = thing.twin()
                self.assertIs(Thing, type(twin))
                self.assertEqual(picture(thing), picture(twin))
                before = picture(thing)
                told = turn_about(random.Random(1), [twin], plan, 40)
                self.assertEqual(before, picture(thing))
                # It answers as the other one does.
                after = picture(twin)
                self.assertEqual(told, turn_about(random.Random(1), [thing], plan, 40))
                self.assertEqual(after, picture(thing))
                self.assertEqual(after, picture(twin))


def turn_about(drawn, things, plan, many):
    """Do many things at each of the things; all that they answered."""
    told = []
    for _ in range(many):
        action = drawn_action(drawn, plan)
        told.append([done(thing, action) for thing in things])
    return told


def drawn_action(drawn, plan):
    """One action: the method's name and its arguments."""
    endpoint = drawn.choice([end[0] for end in plan[3]] + [0, 0, 0, 5])
    mark = drawn.randrange(2)
    data = tuple(drawn.randrange(256) for _ in range(drawn.choice((0, 0, 1, 8, 9))))
    word = drawn.choice(("setup", "in", "in", "in", "went", "went", "out", "out", "load", "let", "stall", "restart"))
    if word == "setup":
        row = drawn.choice(list(REQUESTS.values()) + [request_bytes(("set", 1)), request_bytes(("settings",))] * 9)
        if drawn.random() < 0.2:
            row = drawn.choice((row[:-1], row + (0,), (), data, row[:3] + (row[3] ^ 1,) + row[4:]))
        if drawn.random() < 0.3 and plan[3]:
            number, way = drawn.choice(places(plan))
            row = request_bytes(("clear", number + 128 * (way == "in")))
        return ("hear_setup", row)
    if word == "stall" and drawn.random() < 0.5:
        return ("hear_in", 0)
    if word == "restart" and drawn.random() < 0.8:
        return ("hear_out", 0, 1, ())
    return {
        "in": ("hear_in", endpoint), "went": ("hear_went", endpoint), "out": ("hear_out", endpoint, mark, data),
        "load": ("load", endpoint, data), "let": ("let", endpoint, mark), "restart": ("restart",),
        "stall": ("stall", endpoint, drawn.choice(WAYS)),
    }[word]


def done(thing, action):
    """What a thing answers to an action."""
    try:
        return getattr(thing, action[0])(*action[1:])
    except NoEnd:
        return "no end"


class AgainstASecondWriting(Case):
    def test_all_that_things_are_told(self):
        drawn = random.Random(9)
        seen = set()
        for plan in PLANS * 4:
            thing, said = Thing(plan), SaidThing(plan)
            for _ in range(900):
                action = drawn_action(drawn, plan)
                if action[0] in ("load", "let", "stall"):
                    way = {"load": "in", "let": "out"}.get(action[0], action[-1])
                    if said.half(action[1], way) is None:
                        self.refuses(NoEnd, getattr(thing, action[0]), *action[1:])
                        continue
                if action == ("hear_went", 0):
                    # Only what was given can have come.
                    self.assertEqual(said.hear_in(0), thing.hear_in(0))
                told = getattr(thing, action[0])(*action[1:])
                self.assertEqual(getattr(said, action[0])(*action[1:]), told, action)
                self.assertEqual((said.number, said.level), (thing.number, thing.level))
                for endpoint, way in all_places():
                    half = said.half(endpoint, way)
                    if half is None:
                        self.refuses(NoEnd, thing.half, endpoint, way)
                    else:
                        self.assertEqual(half, thing.half(endpoint, way))
                seen.add(told if isinstance(told, str) else told and told[0])
        self.assertLessEqual({"ack", "nak", "stall", "data"}, seen)
