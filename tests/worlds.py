"""Stories and logs by chance: what really happened, and what somebody saw of it."""

from betweenlists.forms import Form
from betweenlists.logs import Log
from betweenlists.looks import Ask, Piece
from betweenlists.rules import Rules
from betweenlists.stories import Story
from tests.values import BACKWARDS

PLACES = [("a", "x"), ("a", "y"), ("a", "z"), ("b", "x")]
# Nobody looks at this one but by pieces of its folder, and no story by chance touches it.
SPARE = ("b", "y")
FAR = ("c", "x")
FORMS = [Form(), Form(BACKWARDS), Form(chains=2), Form(BACKWARDS, 3)]


def chance_rules(chance):
    """None, or rules that bar some of the renamings among the places."""
    if chance.random() < 0.3:
        return None
    pairs = [(one, other) for one in PLACES for other in PLACES]
    barred = chance.sample(pairs, chance.choice([0, 1, 3, 8]))
    return Rules(across=chance.random() < 0.6, barred=barred)


def chance_change(chance, gap, standing, rules):
    """A change that is possible and allowed."""
    while True:
        place, other = chance.choice(PLACES), chance.choice(PLACES)
        if place not in standing:
            return (gap, "add", place)
        if chance.random() < 0.3:
            return (gap, "take", place)
        if other not in standing and rules(place, other):
            return (gap, "rename", place, other)


def chance_story(chance, moments, rules=None):
    """A story that the rules allow, with a few changes in each gap."""
    given = Rules() if rules is None else rules
    story = Story([place for place in PLACES if chance.random() < 0.5])
    for gap in range(moments - 1):
        for _ in range(chance.choice([0, 1, 1, 2, 2, 3])):
            story += chance_change(chance, gap, story.at(gap + 1), given)
    return story


def true_ask(chance, standing):
    asked = chance.sample(PLACES, chance.randint(0, 4))
    return Ask([(place, place in standing) for place in asked])


def true_piece(chance, standing):
    folder, form = chance.choice("ab"), chance.choice(FORMS)
    mark = chance.choice([None, None, None, "w", "x"])
    most = chance.randint(1, 3)
    names = form.ordered([name for home, name in standing if home == folder])
    behind = [name for name in names if mark is None or form(name) > form(mark)]
    return Piece(folder, form, mark, behind[:most], len(behind) <= most)


def chance_log(chance, story, moments):
    """A log of looks that are right if this is the story."""
    log = Log()
    density = chance.choice([[0, 1], [0, 1, 2], [2, 3], [0, 5], [4]])
    for k in range(moments):
        looks = []
        for _ in range(chance.choice(density)):
            look = chance.choice([true_ask, true_piece])
            looks.append(look(chance, story.at(k)))
        log += looks
    return log


def wrong_log(chance, log):
    """A log in which some look says the opposite of what another one of the same moment says; None if none can."""
    said = [(k, place) for k in range(len(log)) for place in PLACES if log.says(k, place) is not None]
    if not said:
        return None
    k, place = chance.choice(said)
    return log.also(k, Ask([(place, not log.says(k, place))]))


def log_of(rows):
    """A log of one ask at each moment; each place has a sign for each moment: "+" in, "-" out, "." not asked for."""
    many = max([len(signs) for signs in rows.values()], default=0)
    moments = []
    for k in range(many):
        moments.append([Ask([(place, signs[k] == "+") for place, signs in rows.items() if signs[k] != "."])])
    return Log(moments)


def chance_case(seed, chance, most=7):
    """The rules, a story that they allow, and a log of what was seen of it."""
    chance.seed(seed)
    rules = chance_rules(chance)
    moments = chance.randint(2, most)
    story = chance_story(chance, moments, rules)
    return rules, story, chance_log(chance, story, moments)
