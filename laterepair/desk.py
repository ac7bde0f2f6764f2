"""A desk: plans and rules that have names, and lines that tell what to do with them."""

from laterepair.better import spare, trimmed
from laterepair.commands import command_of, meant
from laterepair.compared import order
from laterepair.delays import fewest_losses, worst_delays
from laterepair.inside import inside
from laterepair.judged import judge
from laterepair.pasts import Past, Trial, taken_back
from laterepair.plans import Plan, ticks_of
from laterepair.rules import made_by
from laterepair.streams import play


def made_plan(parts):
    """The plan of these parts."""
    ticks = ticks_of(parts)
    return Plan(*ticks)


def joined_plan(one, other):
    """The plan with the sums of both."""
    return one | other


def turned_plan(plan, number):
    """The plan that begins so many ticks later."""
    return plan >> number


def trimmed_plan(plan):
    """The plan without its needless sums."""
    return trimmed(plan)


def filled_plan(plan, phase, ages):
    """The plan with a sum more at this phase."""
    return plan.with_phase(phase, plan[phase] + ages)


def made_rule(steps):
    """The rule that these steps make."""
    return made_by(steps)


def both_rules(one, other):
    """The rule that lets what both let."""
    return one & other


def either_rule(one, other):
    """The rule that lets what one of them lets."""
    return one | other


def text_of(thing):
    """The text of a plan or a rule."""
    return str(thing)


def number_text(number):
    """The text of a number, or of a word, `-` for None."""
    return "-" if number is None else str(number)


def row_text(texts):
    """These texts with single spaces between, `-` without any."""
    return " ".join(texts) if texts else "-"


def judge_text(plan, rule, delay):
    """Whether the plan is in time, and how long the table or the losses are."""
    verdict = judge(plan, rule, delay)
    if verdict:
        return f"in time {len(verdict.table)}"
    return f"late {len(verdict.losses)}"


def worst_text(plan, rule):
    """The worst delays of the phases."""
    return row_text([number_text(number) for number in worst_delays(plan, rule)])


def fewest_text(plan, delay, rule=None):
    """The number of the fewest losses."""
    return number_text(fewest_losses(plan, delay, rule).number)


def order_text(one, other, rule, delay):
    """The word of the order."""
    return order(one, other, rule, delay)


def spare_text(plan, rule, delay):
    """The pairs of the sums that can be spared."""
    return row_text([f"{phase}:{at}" for phase, at in spare(plan, rule, delay)])


def inside_text(one, other):
    """Whether the other rule lets all that the one lets, and losses if it does not."""
    verdict = inside(one, other)
    return "inside" if verdict else f"outside {verdict.losses}"


def lets_text(rule, losses):
    """Whether the rule lets the losses, and the index of the first packet that may not be lost."""
    refused = rule.first_refused(losses)
    return "yes" if refused is None else f"no {refused}"


def play_text(plan, losses, delay):
    """The late ticks of a stream of rows 0."""
    return row_text([str(tick) for tick in play(plan, [], losses, delay).late])


def known_text(plan, losses, delay):
    """The space of what is known of a stream of rows 0."""
    return str(play(plan, [], losses, delay).known(delay))


PLAN_DEEDS = {
    "plan": made_plan,
    "join": joined_plan,
    "turn": turned_plan,
    "trim": trimmed_plan,
    "put": filled_plan,
}
RULE_DEEDS = {
    "rule": made_rule,
    "both": both_rules,
    "either": either_rule,
}
ANSWERS = {
    "show": text_of,
    "tell": text_of,
    "judge": judge_text,
    "worst": worst_text,
    "fewest": fewest_text,
    "order": order_text,
    "spare": spare_text,
    "inside": inside_text,
    "lets": lets_text,
    "play": play_text,
    "known": known_text,
}


class Desk:
    """Plans and rules by their names, and what they stood for."""

    def __init__(self):
        # The dicts that are held never change: each deed makes another one.
        self._past = Past(({}, {}))

    @property
    def plans(self):
        """A dict from the names of plans to what they stand for."""
        return dict(self._past.held[0])

    @property
    def rules(self):
        """A dict from the names of rules to what they stand for."""
        return dict(self._past.held[1])

    def say(self, line):
        """Does what a line tells, and returns the answer."""
        word, parts = command_of(line)
        plans, rules = self._past.held
        told = meant(parts, plans, rules)
        if word == "undo":
            return self._undone()
        if word == "names":
            return f"{row_text(sorted(plans))} / {row_text(sorted(rules))}"
        if word in ANSWERS:
            answer = ANSWERS[word]
            return answer(*told)
        name = parts[0][1]
        if word in PLAN_DEEDS:
            deed = PLAN_DEEDS[word]
            held = ({**plans, name: deed(*told)}, rules)
        else:
            deed = RULE_DEEDS[word]
            held = (plans, {**rules, name: deed(*told)})
        self._past = Past(held, word, self._past)
        return "ok"

    def _undone(self):
        """Takes the last deed back, and answers whether there was one."""
        if len(self) == 0:
            return "nothing"
        self._past = taken_back(self._past)
        return "ok"

    def __call__(self, line):
        return self.say(line)

    def run(self, *lines):
        """The list of the answers to these lines; all of them are done, or none."""
        draft = Desk()
        draft._past = self._past
        answers = [draft.say(line) for line in lines]
        self._past = draft._past
        return answers

    def __len__(self):
        return len(range(self._past.depth))

    def trial(self):
        """A block behind which all is as when it began."""
        return Trial(self)

    def tried(self, work):
        """What this work on the desk returns, in a trial."""
        with self.trial() as same:
            return work(same)
