"""Rows that may show how two fit containers differ; whether they do so is for boxes to tell.

A plan is a list of steps, which are done in one row of scopes, one of each level: what has no level lives as late as
can be then, so that it can be told from what has an earlier one.
"""

from wirebox.boxes import Box
from wirebox.finding import mark_of
from wirebox.reaching import Chart
from wirebox.rows import fault_at
from wirebox.running import Run

MOST_SOURCES = 12
MOST_PLANS = 200


def steps_to(stop):
    """The steps that lead to a stop, and its own one."""
    return stop.asking.steps_so_far()


def with_steps(steps, more):
    """Steps, and behind them others, without those with which both begin."""
    many = 0
    while many < len(steps) and many < len(more) and steps[many] == more[many]:
        many += 1
    return steps + more[many:]


def row_of(finder, plan, most):
    """The row of commands of a plan, with all scopes closed at last; None if it makes more than so many things."""
    run = Run(finder)
    for step in plan:
        if most is not None and len(run.state.things) > most:
            return None
        run.take(step)
    return tuple(run.commands) + (("close", 1),)


def separating_part(one, other, row):
    """The shortest beginning of a row that separates two containers, None if none does within the bounds of boxes."""
    box, other_box = Box(one), Box(other)
    done = 0
    for index, command in enumerate(row):
        fault, other_fault = fault_at(box, command), fault_at(other_box, command)
        for told in (fault, other_fault):
            if told is not None and told[0] == "TooMany":
                return None
        if fault is not None and other_fault is not None:
            return None
        log = box.log
        if fault is not None or other_fault is not None or log[done:] != other_box.log[done:]:
            return row[:index + 1]
        done = len(log)
    return None


class Guide:
    """Tells plans for what is otherwise in another form than in this one, with the number of things that they take."""

    def __init__(self, form, other, roots):
        self.form = form
        self.other = other
        last = form.finder.top.levels[-1]
        self.chart = Chart(form.finder, [(key, last) for key, _ in roots])
        # Rows of how far from sure a plan is, its number of things, the number of the row, and the plan.
        self.plans = []
        self.collect()

    def propose(self, doubt, total, plan):
        """Note a plan."""
        self.plans.append((doubt, total, len(self.plans), plan))

    def best_plans(self):
        """The plans, the best ones first; not all if there are too many to try them."""
        rows = sorted(self.plans, key=lambda row: (row[0], row[1], row[2]))
        return [plan for _, _, _, plan in rows[:MOST_PLANS]]

    def marks_at(self, form, numbers):
        """The marks of nodes with these numbers in a form."""
        return [mark_of(form.nodes[number]) for number in numbers]

    def collect(self):
        """Note plans for all that is otherwise."""
        for number, other_number in zip(self.form.root_numbers, self.other.root_numbers):
            if self.form.nodes[number] != self.other.nodes[other_number]:
                self.add_reaching(number)
        for mark, number in self.form.numbers.items():
            if mark in self.other.numbers:
                self.compare(number, self.other.numbers[mark])

    def compare(self, number, other_number):
        """Note plans for what is otherwise with the same node in both forms."""
        wants, other_wants = self.form.wants_told[number], self.other.wants_told[other_number]
        if [word for word, _ in wants] != [word for word, _ in other_wants]:
            self.add_reaching(number)
            return
        for place, (word, numbers) in enumerate(wants):
            if self.marks_at(self.form, numbers) != self.marks_at(self.other, other_wants[place][1]):
                if word == "lazy":
                    self.add_using(number, place)
                else:
                    self.add_reaching(number)
        if self.form.maker_at(number).has_end != self.other.maker_at(other_number).has_end:
            self.add_reaching(number)
        if self.form.lives_told[number] != self.other.lives_told[other_number]:
            self.add_lives(number, other_number)

    def add_reaching(self, number):
        """Note a plan that makes a thing of a node."""
        stop = self.chart.first_reaching[mark_of(self.form.nodes[number])]
        self.propose(0, stop.cost, steps_to(stop))

    def add_using(self, number, place):
        """Note a plan that uses a handle of a node."""
        node = self.form.nodes[number]
        stop = self.chart.first_reaching[mark_of(node)]
        depths = [depth for reached, depth in stop.walk.pairs if reached == node]
        self.propose(0, stop.cost, steps_to(stop) + [("use", node, place, depths[0])])

    def doubt_of(self, number, other_number):
        """Whether lives of what holds a node differ, too, so that it is not sure what shows that its own ones do."""
        for holder, other_holder in zip(self.form.holders[number], self.other.holders[other_number]):
            if self.form.lives_told[holder] != self.other.lives_told[other_holder]:
                return 1
        return 0

    def add_lives(self, number, other_number):
        """Note plans that show that the lives of a node differ."""
        doubt = self.doubt_of(number, other_number)
        mark = mark_of(self.form.nodes[number])
        # Often a thing lives in another scope then.
        stops = [stop for stop in self.chart.stops if mark in stop.walk.reached]
        for stop in stops[:MOST_SOURCES]:
            self.propose(doubt, stop.cost, steps_to(stop))
        if self.form.lives_told[number] is None or self.other.lives_told[other_number] is None:
            self.add_twice(doubt, number)

    def sources_of(self, number):
        """Stops by which a node is asked for, as rows: things, number, stop, how many it makes again, None if none."""
        found = []
        noted = {number: True}
        waiting = [number]
        while len(waiting) > 0:
            number = waiting.pop()
            mark = mark_of(self.form.nodes[number])
            if mark in self.chart.first_giving:
                stop = self.chart.first_giving[mark]
                found.append((stop.cost, len(found), stop, stop.walk.units[mark]))
            for holder in self.form.holders[number]:
                if holder not in noted:
                    noted[holder] = True
                    # What has no life of its own is made again, and asks for the node again.
                    if self.form.lives_told[holder] is None:
                        waiting.append(holder)
                    else:
                        stop = self.chart.first_reaching[mark_of(self.form.nodes[holder])]
                        found.append((stop.cost, len(found), stop, None))
        return sorted(found, key=lambda row: (row[0], row[1]))[:MOST_SOURCES]

    def add_twice(self, doubt, number):
        """Note plans that ask for a node twice in the same scopes."""
        sources = self.sources_of(number)
        for at, (total, _, stop, again) in enumerate(sources):
            steps = steps_to(stop)
            if again is not None:
                self.propose(doubt, total + again, steps + steps[-1:])
            for other_total, _, other, _ in sources[:at]:
                self.propose(doubt, total + other_total, with_steps(steps_to(other), steps))
