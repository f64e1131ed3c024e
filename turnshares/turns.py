"""Players, the jobs that wait, and the turns that go round."""

from turnshares.chance import draw

GREATEST_COST = 10000
GREATEST_WEIGHT = 100


class Job:
    def __init__(self, number, thing, cost, sides):
        self.number = number
        self.thing = thing
        self.cost = cost
        self.sides = sides


class Player:
    def __init__(self, number, weight):
        self.number = number
        self.weight = weight
        self.jobs = []
        self.saved = 0
        self.done = 0

    def take_job(self, place):
        job = self.jobs.pop(place)
        # Nothing is hoarded by someone who has nothing to wait for.
        if not self.jobs:
            self.saved = 0
        return job

    def copied(self):
        other = Player(self.number, self.weight)
        # A job never changes, so that both may hold the same ones.
        other.jobs = list(self.jobs)
        other.saved = self.saved
        other.done = self.done
        return other


class Session:
    def __init__(self):
        self.begin(0, 20000, 100)

    def begin(self, seed, budget, quantum):
        self.seed = seed
        self.budget = budget
        self.quantum = quantum
        self.players = []
        self.tick = 0
        self.next_job = 1
        self.turn = 0
        self.begun = False
        self.spent = 0

    def copied(self):
        other = Session()
        other.begin(self.seed, self.budget, self.quantum)
        other.players = [player.copied() for player in self.players]
        other.tick = self.tick
        other.next_job = self.next_job
        other.turn = self.turn
        other.begun = self.begun
        other.spent = self.spent
        return other

    def place_of(self, number):
        for place, player in enumerate(self.players):
            if player.number == number:
                return place
        return None

    def find_player(self, number):
        place = self.place_of(number)
        return None if place is None else self.players[place]

    def count_jobs(self):
        return sum([len(player.jobs) for player in self.players])

    def add_job(self, player, thing, cost, sides):
        job = Job(self.next_job, thing, cost, sides)
        player.jobs.append(job)
        self.next_job += 1
        return job

    def drop_job(self, number):
        """Tells whether there was such a job."""
        for player in self.players:
            numbers = [job.number for job in player.jobs]
            if number in numbers:
                player.take_job(numbers.index(number))
                return True
        return False

    def remove_player(self, place):
        self.players.pop(place)
        if place == self.turn:
            self.give_turn(place)
        elif place < self.turn:
            # Those behind move up by one, and the turn stays with whom it was.
            self.turn -= 1

    def give_turn(self, place):
        self.turn = place if place < len(self.players) else 0
        self.begun = False

    def pass_turn(self):
        self.give_turn(self.turn + 1)

    def run_ticks(self, ticks):
        """Gives back the rows of these ticks as one."""
        row = []
        for passed in range(ticks):
            row.extend(self.run_tick())
        return row

    def run_tick(self):
        """Gives back one row: of each job done, in order, its number, its player and what it drew."""
        self.tick += 1
        self.spent = 0
        draws_made = {}
        row = []
        waiting = self.count_jobs()
        while waiting > 0:
            player = self.players[self.turn]
            if not player.jobs:
                player.saved = 0
                self.pass_turn()
            elif not self.begun:
                player.saved += player.weight * self.quantum
                self.begun = True
            elif player.saved < player.jobs[0].cost:
                self.pass_turn()
            elif self.budget - self.spent < player.jobs[0].cost:
                break
            else:
                row.extend(self.do_job(player, draws_made))
                waiting -= 1
        return row

    def do_job(self, player, draws_made):
        cost = player.jobs[0].cost
        # Paid before it is taken: taking the last one empties what is saved up.
        player.saved -= cost
        job = player.take_job(0)
        player.done += cost
        self.spent += cost
        count = draws_made.get(job.thing, 0)
        draws_made[job.thing] = count + 1
        drawn = draw(self.seed, self.tick, job.thing, count, job.sides)
        return [job.number, player.number, drawn]

    def bound_of(self, player):
        """Tells a number of ticks behind which the player's first job is done, whatever the others have."""
        cost = player.jobs[0].cost
        share = player.weight * self.quantum
        rounds = (cost + share - 1) // share + 2
        weights = sum([each.weight for each in self.players])
        # Between turns less than one job's cost is saved up, and one turn, of any weight, may have begun.
        saved = len(self.players) * GREATEST_COST + GREATEST_WEIGHT * self.quantum
        # A tick that is over while a job waits has left less than one job's cost of its budget.
        return (rounds * self.quantum * weights + saved + cost) // (self.budget - GREATEST_COST) + 1
