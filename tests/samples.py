"""Values that several tests share."""

import itertools
import random

from loopsdeep.console import Console
from loopsdeep.errors import BadMachine, LoopError
from loopsdeep.expressions import Expression, letter, one
from loopsdeep.machines import Machine
from loopsdeep.makers import all_ways, corridor, ring
from loopsdeep.walks import Walk

LETTERS = "abcdefghijklmnopqrstuvwxyz"


def nested(many):
    value = ()
    for level in range(many):
        value = (value,) if level % 2 else [value]
    return value


def odd_values():
    """Values of all kinds, few of which are valid anywhere."""
    return [
        None, True, False, 0, 1, -1, -2, 26, 999, 1000, 10 ** 39, -10 ** 39,
        "", "a", "z", "A", "aa", "1", "0", " ", "\n", "{", "`", "a" * 4000, "()", "(a b)", "machine", "one", "loop",
        (), (0,), (-1,), (True,), (False, "a", 0), (0, "a", 0), (0, "a", 1, 2), ((0, "a", 0),), (0, 1, 2), ("a",),
        [], [0], ["a"], [(0, "a", 0)], {}, {"a": 1}, {0: []}, ([],), ({},), ((),), nested(30),
        ring(2), corridor(3), one(), letter("a"), Expression.read("(a b)*"), (ring(1),), (one(),), [letter("a")],
        Walk(ring(2)), (Walk(ring(1)), Console()), LoopError(), BadMachine("size"), Machine, letter,
    ]


def made_otherwise(rng, value):
    """A value with one of its parts, at any depth, replaced, left out, given twice, turned about or exchanged."""
    if isinstance(value, (tuple, list)) and value and rng.random() < 0.8:
        items = list(value)
        at = rng.randrange(len(items))
        how = rng.randrange(10)
        if how == 0:
            del items[at]
        elif how == 1:
            items.insert(at, items[at])
        elif how == 2:
            items.reverse()
        elif how == 3:
            other = rng.randrange(len(items))
            items[at], items[other] = items[other], items[at]
        else:
            items[at] = made_otherwise(rng, items[at])
        return type(value)(items)
    if isinstance(value, tuple):
        return rng.choice([list(value), value + (0,), value + ((0, "a", 0),), value + value[:1], (), (value,)])
    if isinstance(value, int):
        return rng.choice([value + 1, value - 1, bool(value), str(value), 0, (value,), rng.choice(odd_values())])
    if isinstance(value, str):
        return rng.choice([rng.choice(LETTERS), value.upper(), value * 2, "", 0, (value,), [value]])
    if isinstance(value, Expression):
        return expression_otherwise(rng, value)
    return rng.choice(odd_values())


def expression_otherwise(rng, expression):
    """An expression with another letter, a part otherwise or in another place, or something else in its place."""
    text = str(expression)
    at = rng.randrange(len(text))
    try:
        return Expression.read(text[:at] + rng.choice("1ab*+?") + text[at + rng.randrange(2):])
    except LoopError:
        return rng.choice([text, None, expression.kind, expression.parts, expression.loop(), expression.maybe(),
                           expression.backward(), expression + one(), one() | expression])


def text_otherwise(rng, text):
    """A string with some of its signs left out, given twice, exchanged with others or replaced."""
    signs = list(text)
    for _ in range(rng.choice([1, 1, 1, 2, 3])):
        at = rng.randrange(len(signs) + 1)
        end = at + rng.choice([1, 1, 1, 2, 5])
        how = rng.randrange(4)
        if how == 0:
            del signs[at:end]
        elif how == 1:
            signs[at:at] = signs[at:end]
        elif how == 2:
            signs[at:end] = signs[at:end][::-1]
        else:
            signs[at:at + 1] = rng.choice("ab1 |()*+?;0127-\nAZ{" + text[:1])
    return "".join(signs)


def told_otherwise(rng, value):
    """A value as made_otherwise makes it, but for strings of more than one sign, which are mostly still alike."""
    if isinstance(value, str) and len(value) > 1 and rng.random() < 0.9:
        return text_otherwise(rng, value)
    if isinstance(value, tuple) and value and rng.random() < 0.7:
        at = rng.randrange(len(value))
        return (*value[:at], told_otherwise(rng, value[at]), *value[at + 1:])
    return made_otherwise(rng, value)


def shown(value):
    """A string that tells a value whole, so that two strings tell whether a value was changed."""
    if isinstance(value, (tuple, list)):
        return f"{type(value).__name__}[{', '.join(shown(item) for item in value)}]"
    if isinstance(value, dict):
        return f"dict[{', '.join(shown(key) + ': ' + shown(item) for key, item in value.items())}]"
    if isinstance(value, (Machine, Expression)):
        return f"{type(value).__name__}[{value}; {shown(list(vars(value)))}]"
    return f"{type(value).__name__}[{value!r}]"


def random_machine(rng, most=6, letters="abc"):
    """A machine with random moves, those of its states that lie on no path being left out."""
    while True:
        size = rng.randint(1, most)
        leaving, entering = {}, {}
        for _ in range(rng.randint(0, 2 * size)):
            source, sign, target = rng.randrange(size), rng.choice(letters), rng.randrange(size)
            if (source, sign) not in leaving and (target, sign) not in entering:
                leaving[source, sign] = target
                entering[target, sign] = source
        first, last = rng.randrange(size), rng.randrange(size)
        moves = [(source, sign, target) for (source, sign), target in leaving.items()]
        kept = sorted(states_on_paths(first, last, moves))
        if first not in kept:
            continue
        rng.shuffle(kept)
        number = {state: place for place, state in enumerate(kept)}
        moves = [(number[s], sign, number[t]) for s, sign, t in moves if s in number and t in number]
        return Machine(len(kept), number[first], number[last], tuple(sorted(moves)))


def closure(start, pairs):
    found = {start}
    while True:
        more = {target for source, target in pairs if source in found} - found
        if not more:
            return found
        found |= more


def states_on_paths(first, last, moves):
    ahead = closure(first, [(s, t) for s, _, t in moves])
    behind = closure(last, [(t, s) for s, _, t in moves])
    return ahead & behind


def levels_of_any_kind(rng, machine):
    """Levels no two of which are the same, perhaps with gaps."""
    return tuple(rng.sample([1, 2, 3, 5, 8, 13, 21], machine.size))


def random_machines(seed, many, **how):
    rng = random.Random(seed)
    return [random_machine(rng, **how) for _ in range(many)]


def all_words(letters, most):
    """All words over some letters with at most so many, shorter ones first, then ascending."""
    return ["".join(signs) for length in range(most + 1) for signs in itertools.product(sorted(letters), repeat=length)]


def end_of(machine, word):
    """The state in which the path from the first state ends that spells a word, found from the moves alone."""
    states = [machine.first]
    for sign in word:
        states = [t for s, by, t in machine.moves if s in states and by == sign]
    return states[0] if states else None


def words_of(machine, most):
    return [word for word in all_words(machine.letters, most) if end_of(machine, word) == machine.last]


def random_expression(rng, many, letters="ab"):
    """An expression with so many letters, and perhaps with ones in between."""
    if many <= 1:
        made = letter(rng.choice(letters)) if many else one()
    else:
        cuts = sorted(rng.sample(range(many + 2), rng.randint(1, min(2, many))))
        cuts = [0] + [min(cut, many) for cut in cuts] + [many]
        parts = [random_expression(rng, after - before, letters) for before, after in zip(cuts, cuts[1:])]
        made = Expression(rng.choice(["row", "choice"]), tuple(parts))
    for _ in range(rng.choice([0, 0, 1, 1, 2])):
        made = Expression(rng.choice(["loop", "some", "maybe"]), (made,))
    return made


def words_within(expression, most, labels):
    """The set of the words with at most so many letters, the letters being replaced by labels from an iterator."""
    kind = expression.kind
    if kind == "one":
        return {""}
    if kind == "letter":
        label = next(labels)
        return {label} if most > 0 else set()
    inner = [words_within(part, most, labels) for part in expression.parts]
    if kind == "row":
        words = {""}
        for part in inner:
            words = one_behind_the_other(words, part, most)
        return words
    if kind in ("choice", "maybe"):
        return set().union(*inner, {""} if kind == "maybe" else set())
    words = rounds = inner[0] if kind == "some" else {""} | inner[0]
    while rounds:
        rounds = one_behind_the_other(rounds, inner[0], most) - words
        words = words | rounds
    return words


def one_behind_the_other(words, others, most):
    by_length = [[other for other in others if len(other) == length] for length in range(most + 1)]
    return {word + other for word in words for length in range(most + 1 - len(word)) for other in by_length[length]}


def reading_by_hand(rng, expression, rounds=3):
    """Any reading of any word, empty rounds among the others, with at most so many rounds."""
    kind, parts = expression.kind, expression.parts
    if kind == "letter":
        return parts[0]
    if kind == "choice":
        index = rng.randrange(len(parts))
        return index, reading_by_hand(rng, parts[index], rounds)
    if kind in ("one", "row"):
        return tuple(reading_by_hand(rng, part, rounds) for part in parts)
    least, most = {"loop": (0, rounds), "some": (1, rounds), "maybe": (0, 1)}[kind]
    return tuple(reading_by_hand(rng, parts[0], rounds) for _ in range(rng.randint(least, most)))


def letters_in(text):
    """The letters of the text of an expression, in order."""
    return [sign for sign in text if sign in LETTERS]


def sample_texts():
    return [
        "1", "a", "(a b)", "(a | b)", "a*", "a+", "a?", "1*", "1+", "1?", "(1 1)", "(1 | 1)", "(1 | a)", "(a 1 b)",
        "((a b)* | c)?", "(a (a (a b)* b)* b)*", "(1 | (a ((b a) | (a (a b)* b))* b))", "((a b) c)", "(a (b c))",
        "((a | b) | c)", "(a | (b | c))", "(a | b | c)", "(a b c)", "(a? b? c?)", "(a* b+ c?)+", "(a b? c* d)",
        "((a? b?) | c)+", "((a | 1) (b | 1))*", "a*+?", "(a | (b c))*", "((a b)+ a?)*", "(a b a b)*", "(z y x)",
    ]


def sample_machines():
    makers = [maker(size) for maker in (ring, corridor, all_ways) for size in (1, 2, 3, 5)]
    return makers + [
        Machine(1, 0, 0, ((0, "a", 0), (0, "b", 0), (0, "z", 0))),
        Machine(2, 0, 1, ((0, "a", 1),)),
        Machine(2, 1, 0, ((1, "b", 0),)),
        Machine(3, 2, 1, ((0, "c", 0), (0, "x", 1), (2, "x", 0))),
        Machine(4, 1, 3, ((0, "a", 2), (1, "a", 0), (1, "b", 2), (2, "a", 3), (2, "c", 1))),
    ]
