"""A thing by the words of points 7, 8 and 9 alone."""

from tests.said_plans import said_device, said_settings

NUMBER, SET, CLEAR, RESET, SHUT = (0, 5), (0, 9), (2, 1, 0, 0), (35, 3, 4, 0), (35, 1, 1, 0)


class SaidThing:
    def __init__(self, plan):
        self.plan = plan
        self.turned = dict.fromkeys(range(1, plan[2] + 1), 0)
        # What is to be done at a port, for a tree that has one.
        self.at_port = lambda word, port: None
        self.restart()

    def restart(self):
        self.number, self.level = 0, 0
        self.takes, self.gives = {}, {}
        self.nothing_goes_on()

    def nothing_goes_on(self):
        self.stalls = False
        # What it gives: (mark, piece) one by one, or None where it gives nothing.
        self.row = None
        # What it is to do, what it takes when the answer came, and whether it has answered.
        self.wish = None
        self.answered = False

    def set_up(self, level):
        self.level = level
        self.takes, self.gives = {}, {}
        if level:
            for number, way, _, size, _ in self.plan[3]:
                if way == "out":
                    self.takes[number] = dict(mark=0, halted=False, room=0, came=())
                else:
                    self.gives[number] = dict(mark=0, halted=False, pieces=[], size=size)

    def half(self, endpoint, way):
        if way == "out" and endpoint in self.takes:
            return tuple(self.takes[endpoint][part] for part in ("mark", "halted", "room", "came"))
        if way == "in" and endpoint in self.gives:
            found = self.gives[endpoint]
            return (found["mark"], found["halted"], tuple(found["pieces"]))
        return None

    def give(self, row):
        pieces = [row[at:at + 8] for at in range(0, len(row), 8)]
        if not pieces or len(pieces[-1]) == 8:
            pieces.append(())
        self.row = [((k + 1) % 2, piece) for k, piece in enumerate(pieces)]

    def hear_setup(self, data):
        self.nothing_goes_on()
        ports = range(1, self.plan[2] + 1)
        if data == (128, 6, 0, 1, 0, 0, 18, 0):
            self.give(said_device(self.plan))
        elif data == (128, 6, 0, 2, 0, 0, 255, 0):
            self.give(said_settings(self.plan))
        elif len(data) == 8 and data[:4] == (163, 0, 0, 0) and data[4] in ports and data[5:] == (0, 2, 0):
            turned = self.turned[data[4]]
            self.give((turned % 2, turned % 256))
        elif len(data) == 8 and data[:2] == NUMBER and data[2] < 16 and data[3:] == (0,) * 5:
            self.wish = lambda: None
            self.then = data[2]
        elif len(data) == 8 and data[:2] == SET and data[2] < 2 and data[3:] == (0,) * 5:
            self.wish = lambda: self.set_up(data[2])
            self.then = None
        elif len(data) == 8 and data[:4] == CLEAR and data[5:] == (0,) * 3 and self.clearing(data[4]) is not None:
            self.wish = lambda: self.clear(data[4])
            self.then = None
        elif len(data) == 8 and data[:4] in (RESET, SHUT) and data[4] in ports and data[5:] == (0,) * 3:
            self.wish = lambda: self.at_port("reset" if data[:4] == RESET else "shut", data[4])
            self.then = None
        else:
            self.stalls = True
        return "ack"

    def clearing(self, byte):
        return self.gives.get(byte - 128) if byte > 127 else self.takes.get(byte)

    def clear(self, byte):
        found = self.clearing(byte)
        found.update(mark=0, halted=False)
        if byte > 127:
            found["pieces"] = []

    def hear_in(self, endpoint):
        if endpoint == 0:
            if self.stalls:
                return ("stall",)
            if self.wish is not None:
                if not self.answered:
                    self.wish()
                    self.answered = True
                return ("data", 1, ())
            return ("data",) + self.row[0] if self.row else ("nak",)
        if endpoint not in self.gives:
            return None
        found = self.gives[endpoint]
        if found["halted"]:
            return ("stall",)
        return ("data", found["mark"], found["pieces"][0]) if found["pieces"] else ("nak",)

    def hear_went(self, endpoint):
        if endpoint == 0:
            if self.wish is not None and self.answered:
                if self.then is not None:
                    self.number = self.then
                self.nothing_goes_on()
            elif self.row:
                del self.row[0]
        elif endpoint in self.gives:
            found = self.gives[endpoint]
            if found["pieces"] and not found["halted"]:
                del found["pieces"][0]
                found["mark"] = 1 - found["mark"]

    def hear_out(self, endpoint, mark, data):
        if endpoint == 0:
            if self.stalls or self.wish is not None or (mark, data) != (1, ()):
                return "stall"
            self.row = None
            return "ack"
        if endpoint not in self.takes:
            return None
        found = self.takes[endpoint]
        if found["halted"]:
            return "stall"
        if mark != found["mark"]:
            return "ack"
        if not found["room"]:
            return "nak"
        found.update(mark=1 - mark, room=found["room"] - 1, came=found["came"] + data)
        return "ack"

    def load(self, endpoint, data):
        found = self.gives[endpoint]
        pieces = [data[at:at + found["size"]] for at in range(0, len(data), found["size"])]
        if len(data) % found["size"] == 0:
            pieces.append(())
        found["pieces"] += pieces

    def let(self, endpoint, many):
        self.takes[endpoint]["room"] += many

    def stall(self, endpoint, way):
        (self.gives if way == "in" else self.takes)[endpoint]["halted"] = True
