"""A tree of things by the words of points 8 to 10 and 12 alone: it hears what a journal says, and answers."""

from tests.said_thing import SaidThing


class SaidTree:
    def __init__(self, test):
        self.test = test
        self.things = {}
        # Where each hangs: (hub, port).
        self.places = {}
        # From which frame on a port's thing is heard, of ports that are open.
        self.opens = {}
        self.frame = 0

    def plug(self, name, plan, hub, port):
        thing = SaidThing(plan)
        thing.at_port = lambda word, at: self.at_port(word, name, at)
        self.things[name] = thing
        self.places[name] = (hub, port)
        self.opens.pop((hub, port), None)
        if hub:
            self.things[hub].turned[port] += 1

    def inside(self, name):
        found = [one for one, place in self.places.items() if place[0] == name]
        return [name] + [other for one in found for other in self.inside(one)]

    def pull(self, name):
        hub, port = self.places[name]
        if hub:
            self.things[hub].turned[port] += 1
        for one in self.inside(name):
            del self.things[one], self.places[one]

    def at_port(self, word, hub, port):
        """A port is reset or shut off."""
        self.opens.pop((hub, port), None)
        names = [name for name, place in self.places.items() if place == (hub, port)]
        if word == "reset" and names:
            self.things[names[0]].restart()
            for one in self.inside(names[0])[1:]:
                self.opens.pop(self.places[one], None)
            self.opens[(hub, port)] = self.frame + 2

    def is_heard(self, name, frame):
        if name == "":
            return True
        place = self.places[name]
        return self.opens.get(place, frame + 1) <= frame and self.is_heard(place[0], frame)

    def hearers(self, number, frame):
        return [name for name, thing in self.things.items() if thing.number == number and self.is_heard(name, frame)]

    def run_frame(self, rows, before, after):
        """Hear the rows of a frame; before and after are what the host knew of the ports."""
        self.frame = rows[0][0]
        self.test.assertEqual(("host", ("frame", self.frame % 2048), True), rows[0][1:])
        at = 1
        while at < len(rows):
            due = self.turn(rows[at:])
            self.test.assertEqual(due, [row[1:] for row in rows[at:at + len(due)]])
            at += len(due)
        for (hub, port, old, _), new in [(row, row_after[2]) for row, row_after in zip(before, after) if row[0] == 0]:
            # The root's ports are reset and shut off by the host itself.
            if new == "reset" and old != "reset":
                self.at_port("reset", "", port)
            elif old == "shutting" and new in ("seen", "refused", "dead"):
                self.at_port("shut", "", port)

    def turn(self, rows):
        """What must be said in a turn, by whether each packet came, as the rows tell it."""
        _, _, token, came = rows[0]
        names = self.hearers(token[1], self.frame) if came else []
        thing = self.things[names[0]] if len(names) == 1 else None
        if token[0] == "in":
            return self.turn_in(rows, token, came, thing)
        piece, piece_came = rows[1][2:]
        due = [("host", token, came), ("host", piece, piece_came)]
        self.test.assertTrue(came or not piece_came)
        self.test.assertEqual("data", piece[0])
        if thing and piece_came:
            answer = thing.hear_setup(piece[2]) if token[0] == "setup" else thing.hear_out(token[2], *piece[1:])
            if answer:
                due.append(("thing", (answer,), rows[2][3]))
        return due

    def turn_in(self, rows, token, came, thing):
        due = [("host", token, came)]
        packet = thing.hear_in(token[2]) if thing else None
        if packet:
            due.append(("thing", packet, rows[1][3]))
            if packet[0] == "data" and rows[1][3]:
                due.append(("host", ("ack",), rows[2][3]))
                if rows[2][3]:
                    thing.hear_went(token[2])
        return due
