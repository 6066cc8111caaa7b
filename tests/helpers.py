"""What several tests use: other values, plain counterparts and checks of form."""

import itertools
from fractions import Fraction

from manysights.claims import Claim
from manysights.deeds import Deed
from manysights.errors import DealError
from manysights.pieces import piece_of, pieces
from manysights.standings import Standing
from manysights.views import View

NO_NAMES = ("", "A", "1a", "a b", "aB", "abcdefghi", "a-b", "a\n", " a", "a ", "_a", "a.b", "z~")
NAMES = ("a", "z", "a1", "abcdefgh", "a0000009", "x9y8z7")
NO_DIGITS = (True, False, None, "1", "", -1, 10, 10**30, -(10**30), 1.0, (1,), [1], {}, b"1")
NO_WEIGHTS = (True, False, None, "1", 0, -1, -(10**30), 1.5, (1,), [1], {}, b"1")
NO_COUNTS = (True, False, None, "3", 0, -1, 2001, 10**30, -(10**30), 2.0, (1,), [1], {}, b"1")


def error_of(call, *given, **named):
    """Return the error that the call raises, or None."""
    try:
        call(*given, **named)
    except DealError as error:
        return error
    return None


class Fails:
    """A part of test cases: checks of errors and of tuples."""

    def assert_error(self, kind, fields, call, *given, **named):
        """Check that the call raises exactly this error with these fields."""
        error = error_of(call, *given, **named)
        self.assertIs(error.__class__, kind, f"{error!r}")
        for name, value in fields.items():
            self.assertEqual(getattr(error, name), value)

    def assert_well_formed(self, standing):
        """Check that the standing equals the one that its own methods make."""
        made = Standing(max(standing.deals) + 1).only(standing.deals)
        for name in standing.facts:
            made = made.with_fact(name, standing.digits(name))
        for name in standing.parties:
            made = made.with_party(name, standing.sight(name).marks, weights=standing.weights(name))
        self.assertEqual(standing, made)
        self.assertEqual([standing.position(deal) for deal in standing], list(range(len(standing))))
        self.assert_tuples(standing.key)

    def assert_tuples(self, value):
        """Check that there is no list at any level."""
        self.assertNotIsInstance(value, list)
        if isinstance(value, tuple):
            for item in value:
                self.assert_tuples(item)


def canonical(marks):
    """Return marks as point 7 numbers them."""
    return tuple(sorted(set(marks), key=list(marks).index).index(mark) for mark in marks)


def every_marks(size):
    """Return the marks of all sights of a size, in ascending order, found in another way."""
    rows = [()]
    for _ in range(size):
        rows = [row + (mark,) for row in rows for mark in range(max(row, default=-1) + 2)]
    return rows


def joined(rows, size):
    """Return for each pair whether a chain leads from one to the other (a plain closure)."""
    near = [[any(row[i] == row[j] for row in rows) or i == j for j in range(size)] for i in range(size)]
    for k in range(size):
        for i in range(size):
            if near[i][k]:
                near[i] = [one or two for one, two in zip(near[i], near[k])]
    return near


def marks_of_near(near):
    """Return marks from a table of which deals are alike."""
    return tuple(canonical([row.index(True) for row in near]))


def random_standing(random, *, most=7, parties="abc", facts="fg", gaps=True, weights=True):
    """Return a standing of random sights, digits and weights."""
    count = random.randint(1, most)
    standing = Standing(count + (2 if gaps else 0))
    for name in facts:
        standing = standing.with_fact(name, [random.randint(0, 2) for _ in standing])
    for name in parties:
        marks = [random.randint(0, count) for _ in standing]
        heavy = [random.randint(1, 4) for _ in standing] if weights else None
        standing = standing.with_party(name, marks, weights=heavy)
    return standing.only(sorted(random.sample(list(standing), count)))


def random_grounded(random, depth, parties="abc", facts="fg"):
    """Return a random view that is grounded."""
    kind = random.randint(0, 3) if depth else 0
    if kind == 0:
        return View.eyes(random.choice(parties))
    if kind == 1:
        size = random.randint(1, 3)
        return View.common([random_grounded(random, depth - 1, parties, facts) for _ in range(size)])
    members = [random_view(random, depth - 1, parties, facts) for _ in range(random.randint(0, 2))]
    members.insert(random.randint(0, len(members)), random_grounded(random, depth - 1, parties, facts))
    return View.pooled(members)


def random_view(random, depth, parties="abc", facts="fg"):
    """Return a random view of any kind."""
    kind = random.randint(0, 7) if depth else random.randint(0, 1)
    if kind == 0:
        return View.eyes(random.choice(parties))
    if kind == 1:
        return View.value(random.choice(facts))
    if kind == 2:
        return View.whether(random_claim(random, depth - 1, parties, facts))
    if kind == 3:
        claim = random_claim(random, depth - 1, parties, facts)
        return View.when(claim, random_view(random, depth - 1, parties, facts))
    if kind == 4:
        seen = random_grounded(random, depth - 1, parties, facts) if random.random() < 0.5 else None
        return View.worth(random.choice(parties), random_terms(random, depth - 1, parties, facts), seen=seen)
    if kind == 5:
        return View.pooled([random_view(random, depth - 1, parties, facts) for _ in range(random.randint(1, 3))])
    return random_grounded(random, depth, parties, facts)


def random_terms(random, depth, parties="abc", facts="fg"):
    """Return random terms."""
    count = random.randint(0, 2)
    return [[random.randint(-3, 3), random_claim(random, depth, parties, facts)] for _ in range(count)]


def random_claim(random, depth, parties="abc", facts="fg"):
    """Return a random claim of any kind."""
    kind = random.randint(0, 6) if depth else random.randint(0, 1)
    if kind == 0:
        return Claim.fact(random.choice(facts), random.randint(0, 2))
    if kind == 1:
        return Claim.always() if random.random() < 0.3 else Claim.fact(random.choice(facts), random.randint(0, 2))
    if kind == 2:
        view = random_grounded(random, depth - 1, parties, facts)
        return Claim.known(view, random_claim(random, depth - 1, parties, facts))
    if kind == 3:
        view = random_grounded(random, depth - 1, parties, facts)
        return Claim.weighs(random.choice(parties), view, random_terms(random, depth - 1, parties, facts))
    if kind == 4:
        return ~random_claim(random, depth - 1, parties, facts)
    members = [random_claim(random, depth - 1, parties, facts) for _ in range(random.randint(0, 3))]
    return Claim.all_of(members) if kind == 5 else Claim.any_of(members)


def random_deed(random, depth, parties="abc", facts="fg", *, calls=True):
    """Return a random deed of any kind; with calls=False, none in which a call stands."""
    kind = random.choice("sacxfr" if calls else "saxfr")
    if kind == "s":
        count = random.randint(0, 3)
        return Deed.show([[random.choice(parties), random_view(random, depth, parties, facts)] for _ in range(count)])
    if kind == "a":
        return Deed.announce(random_view(random, depth, parties, facts))
    if kind == "c":
        return Deed.call(random_claim(random, depth, parties, facts))
    if kind == "f":
        return Deed.forget(random.choice(parties), random_view(random, depth, parties, facts))
    if kind == "r":
        return Deed.row([random_deed(random, depth, parties, facts, calls=calls) for _ in range(random.randint(0, 2))])
    settings = []
    for fact in random.sample(facts, random.randint(0, len(facts))):
        sources = [random.choice([random.randint(0, 2), random.choice(facts)]) for _ in range(random.randint(0, 3))]
        settings.append([fact, [[random_claim(random, depth, parties, facts), source] for source in sources]])
    return Deed.change(settings)


def random_plain_deed(random, eyes, parties="abc"):
    """Return a random plain deed; its views have at most so many eyes."""
    kind = random.choice("safr")
    view = random_plain(random, random.randint(1, eyes), parties)
    if kind == "a":
        return Deed.announce(view)
    if kind == "f":
        return Deed.forget(random.choice(parties), view)
    if kind == "r":
        return Deed.row([random_plain_deed(random, eyes, parties) for _ in range(random.randint(0, 2))])
    count = random.randint(0, 3)
    views = [random_plain(random, random.randint(1, eyes), parties) for _ in range(count)]
    return Deed.show([(random.choice(parties), one) for one in views])


def view_from(parts):
    """Return the view with these parts."""
    word = parts[0]
    if word == "eyes":
        return View.eyes(parts[1])
    if word == "value":
        return View.value(parts[1])
    if word == "whether":
        return View.whether(claim_from(parts[1]))
    if word == "when":
        return View.when(claim_from(parts[1]), view_from(parts[2]))
    if word == "worth":
        terms = [(number, claim_from(claim)) for number, claim in parts[3]]
        return View.worth(parts[1], terms, seen=view_from(parts[2]))
    members = [view_from(member) for member in parts[1]]
    return View.pooled(members) if word == "pooled" else View.common(members)


def claim_from(parts):
    """Return the claim with these parts."""
    word = parts[0]
    if word == "always":
        return Claim.always()
    if word == "fact":
        return Claim.fact(parts[1], parts[2])
    if word == "known":
        return Claim.known(view_from(parts[1]), claim_from(parts[2]))
    if word == "weighs":
        terms = [(number, claim_from(claim)) for number, claim in parts[3]]
        return Claim.weighs(parts[1], view_from(parts[2]), terms)
    if word == "not":
        return ~claim_from(parts[1])
    members = [claim_from(member) for member in parts[1]]
    return Claim.all_of(members) if word == "and" else Claim.any_of(members)


def deed_from(parts):
    """Return the deed with these parts."""
    word = parts[0]
    if word == "show":
        return Deed.show([(party, view_from(view)) for party, view in parts[1]])
    if word == "announce":
        return Deed.announce(view_from(parts[1]))
    if word == "call":
        return Deed.call(claim_from(parts[1]))
    if word == "change":
        return Deed.change([(fact, [(claim_from(claim), source) for claim, source in cases]) for fact, cases in parts[1]])
    if word == "forget":
        return Deed.forget(parts[1], view_from(parts[2]))
    return Deed.row([deed_from(deed) for deed in parts[1]])


def random_plain(random, eyes, parties="abc"):
    """Return a random plain view with so many eyes."""
    if eyes == 1:
        return View.eyes(random.choice(parties))
    cuts = sorted(random.sample(range(1, eyes), random.randint(1, min(eyes - 1, 2))))
    sizes = [high - low for low, high in zip([0] + cuts, cuts + [eyes])]
    members = [random_plain(random, size, parties) for size in sizes]
    return random.choice([View.pooled, View.common])(members)


def party_weight(standing, party, deals):
    """Return the sum of the weights of these open deals."""
    return sum(standing.weights(party)[standing.position(deal)] for deal in deals)


def cell_at(standing, view, deal):
    """Return the deals that are alike to a deal in a view, by the words of point 23."""
    return [other for other in standing if meant_alike(standing, view, deal, other)]


def worth_at(standing, party, terms, deals):
    """Return the worth of terms in a set of deals, by the words of point 23."""
    top = sum(number * party_weight(standing, party, [d for d in deals if meant_true(standing, claim, d)])
              for number, claim in terms)
    return Fraction(top, party_weight(standing, party, deals))


def meant_alike(standing, parts, deal, other):
    """Tell whether two open deals are alike in a view, given by its parts, by the words of point 23."""
    word = parts[0]
    if word == "eyes":
        return standing.sight(parts[1]).alike(standing.position(deal), standing.position(other))
    if word == "value":
        return standing.digit(parts[1], deal) == standing.digit(parts[1], other)
    if word == "whether":
        return meant_true(standing, parts[1], deal) == meant_true(standing, parts[1], other)
    if word == "when":
        one, two = meant_true(standing, parts[1], deal), meant_true(standing, parts[1], other)
        return (not one and not two) or (one and two and meant_alike(standing, parts[2], deal, other))
    if word == "worth":
        worths = [worth_at(standing, parts[1], parts[3], cell_at(standing, parts[2], d)) for d in (deal, other)]
        return worths[0] == worths[1]
    if word == "pooled":
        return all(meant_alike(standing, member, deal, other) for member in parts[1])
    reached, size = {deal}, 0
    while size < len(reached):
        size = len(reached)
        for member in parts[1]:
            for start in sorted(reached):
                reached |= set(cell_at(standing, member, start))
    return other in reached


def meant_true(standing, parts, deal):
    """Tell whether a claim, given by its parts, holds at an open deal, by the words of point 24."""
    word = parts[0]
    if word == "always":
        return True
    if word == "fact":
        return standing.digit(parts[1], deal) == parts[2]
    if word == "known":
        return all(meant_true(standing, parts[2], other) for other in cell_at(standing, parts[1], deal))
    if word == "weighs":
        cell = cell_at(standing, parts[2], deal)
        return sum(number * party_weight(standing, parts[1], [d for d in cell if meant_true(standing, claim, d)])
                   for number, claim in parts[3]) >= 0
    if word == "not":
        return not meant_true(standing, parts[1], deal)
    if word == "and":
        return all(meant_true(standing, member, deal) for member in parts[1])
    return any(meant_true(standing, member, deal) for member in parts[1])


def names_in(parts):
    """Return pairs of P or F and a name in parts, in the order of the written form (points 107 to 109)."""
    word = parts[0]
    found = []
    if word in ("eyes", "worth", "weighs", "forget"):
        found.append(("P", parts[1]))
    elif word in ("value", "fact"):
        found.append(("F", parts[1]))
    if word in ("whether", "not", "announce", "call"):
        found += names_in(parts[1])
    elif word in ("when", "known"):
        found += names_in(parts[1]) + names_in(parts[2])
    elif word in ("worth", "weighs"):
        found += names_in(parts[2]) + [pair for _, claim in parts[3] for pair in names_in(claim)]
    elif word == "forget":
        found += names_in(parts[2])
    elif word in ("pooled", "common", "and", "or", "row"):
        found += [pair for inner in parts[1] for pair in names_in(inner)]
    elif word == "show":
        for party, view in parts[1]:
            found += [("P", party)] + names_in(view)
    elif word == "change":
        for fact, cases in parts[1]:
            found.append(("F", fact))
            for claim, source in cases:
                found += names_in(claim) + ([("F", source)] if isinstance(source, str) else [])
    return found


def first_unknown(standing, terms):
    """Return the first name in views, claims and deeds that the standing lacks, as kind and name, or None."""
    for term in terms:
        for kind, name in names_in(term.parts):
            if name not in (standing.parties if kind == "P" else standing.facts):
                return kind, name
    return None


def pieces_near(standing):
    """Return for each pair of positions whether they are in the same piece, by the words of point 16."""
    rows = [standing.sight(name).marks for name in standing.parties]
    return joined(rows, len(standing))


def remade(standing, near=None, digits=None):
    """Return the standing with other sights (tables of alike positions) or digits, under names."""
    made = Standing(max(standing.deals) + 1).only(standing.deals)
    for name in standing.facts:
        made = made.with_fact(name, digits[name] if digits else standing.digits(name))
    for name in standing.parties:
        marks = marks_of_near(near[name]) if near and name in near else standing.sight(name).marks
        made = made.with_party(name, marks, weights=standing.weights(name))
    return made


def meant_single(standing, parts):
    """Return the standing after a single deed, given by its parts, or None, by the words of point 37."""
    deals = list(standing)
    near = {name: [[standing.sight(name).alike(i, j) for j in range(len(deals))] for i in range(len(deals))]
            for name in standing.parties}
    if parts[0] == "call":
        left = [deal for deal in deals if meant_true(standing, parts[1], deal)]
        return standing.only(left) if left else None
    if parts[0] in ("show", "announce"):
        lessons = parts[1] if parts[0] == "show" else [(name, parts[1]) for name in standing.parties]
        for name, view in lessons:
            near[name] = [[near[name][i][j] and meant_alike(standing, view, one, two) for j, two in enumerate(deals)]
                          for i, one in enumerate(deals)]
        return remade(standing, near)
    if parts[0] == "forget":
        same = pieces_near(standing)
        kept = [[same[i][j] and meant_alike(standing, parts[2], one, two) for j, two in enumerate(deals)]
                for i, one in enumerate(deals)]
        near[parts[1]] = joined([marks_of_near(near[parts[1]]), marks_of_near(kept)], len(deals))
        return remade(standing, near)
    digits = {name: list(standing.digits(name)) for name in standing.facts}
    for fact, cases in parts[1]:
        for place, deal in enumerate(deals):
            for claim, source in cases:
                if meant_true(standing, claim, deal):
                    digits[fact][place] = standing.digit(source, deal) if isinstance(source, str) else source
                    break
    return remade(standing, None, digits)


def single_parts(parts):
    """Return the parts of the single deeds of a deed."""
    return [one for inner in parts[1] for one in single_parts(inner)] if parts[0] == "row" else [parts]


def meant_after(standing, deed):
    """Return the standing after a deed, or None, and how many single deeds were done."""
    for index, parts in enumerate(single_parts(deed.parts)):
        end = meant_single(standing, parts)
        if end is None:
            return None, index
        standing = end
    return standing, len(single_parts(deed.parts))


def plain_moves(state, menu):
    """Return the moves of a state, by the words of point 49."""
    found = []
    for index, deed in enumerate(menu):
        end, _ = meant_after(state, deed)
        if end is not None:
            found.extend((index, piece) for piece in pieces(end))
    return found


def plain_reachable(standing, menu):
    """Return all states that can be reached, by the words of point 50."""
    found = list(pieces(standing))
    for state in found:
        for _, other in plain_moves(state, menu):
            if other not in found:
                found.append(other)
    return found


def plain_play(standing, menu, deal, row):
    """Return the states of a play, by the words of point 51, or the place of a deed that cannot be done."""
    found = [piece_of(standing, deal)]
    for place, index in enumerate(row):
        states = [state for _, state in plain_moves(found[-1], [menu[index]]) if deal in state]
        if not states:
            return place
        found.extend(states)
    return found


def rows_up_to(count, longest):
    """Yield rows of indexes less than count, in the order of rows."""
    for length in range(longest + 1):
        yield from itertools.product(range(count), repeat=length)


def digit_step(fact, top):
    """Return the deed that counts a fact one up, from its top digit back to 0."""
    cases = [(Claim.fact(fact, digit), (digit + 1) % (top + 1)) for digit in range(top + 1)]
    return Deed.change([(fact, cases)])


def plain_marks(parts, rows):
    """Return the marks of a plain view, given by its parts, if the parties have these marks."""
    if parts[0] == "eyes":
        return rows[parts[1]]
    inner = [plain_marks(member, rows) for member in parts[1]]
    if parts[0] == "pooled":
        return canonical(list(zip(*inner)))
    return marks_of_near(joined(inner, len(inner[0])))


def is_right_form(customs, one, two, value):
    """Tell whether the value is a derivation, by the words of points 29 and 115; views are parts."""
    if value[0] == "same":
        return len(value) == 1 and one[0] == two[0] == "eyes" and one[1] == two[1]
    if value[0] == "from each":
        return one[0] == "common" and len(value) == 2 and len(value[1]) == len(one[1]) and all(
            is_right_form(customs, member, two, inner) for member, inner in zip(one[1], value[1]))
    if value[0] == "to each":
        return two[0] == "pooled" and len(value) == 2 and len(value[1]) == len(two[1]) and all(
            is_right_form(customs, one, member, inner) for member, inner in zip(two[1], value[1]))
    if value[0] == "from":
        return one[0] == "pooled" and is_right_form(customs, one[1][value[1]], two, value[2])
    if value[0] == "to":
        return two[0] == "common" and is_right_form(customs, one, two[1][value[1]], value[2])
    view, party = customs[value[1]]
    return value[0] == "by" and is_right_form(customs, one, view.parts, value[2]) and is_right_form(
        customs, ("eyes", party), two, value[3])


def tuples_within(value):
    """Return how many tuples stand within each other, the value included."""
    return 1 + max([tuples_within(item) for item in value], default=0) if isinstance(value, tuple) else 0


def spoilt_forms(value):
    """Yield values that differ from a derivation in one place; most of them are wrong."""
    if isinstance(value, tuple):
        for place, item in enumerate(value):
            yield value[:place] + value[place + 1:]
            yield value[:place] + (None,) + value[place + 1:]
            yield value[:place] + (item, item) + value[place + 1:]
            for other in spoilt_forms(item):
                yield value[:place] + (other,) + value[place + 1:]
        yield value + ("same",)
    elif isinstance(value, int):
        yield from (value + 1, value - 1, -1, 10**20, "0", ())
    else:
        yield from (word for word in ("same", "from", "to", "from each", "to each", "by", "") if word != value)


def small_standings(names, size):
    """Yield all standings of a size with these parties and nothing else."""
    for rows in itertools.product(every_marks(size), repeat=len(names)):
        standing = Standing(size)
        for name, row in zip(names, rows):
            standing = standing.with_party(name, row)
        yield standing


NOT_PLAIN = [
    View.value("f"), View.whether(Claim.always()), View.when(Claim.always(), View.eyes("a")), View.worth("a", []),
    View.eyes("a") & View.value("f"), View.common([View.eyes("a") & View.value("f"), View.eyes("b")]),
    View.eyes("a") & (View.eyes("b") | (View.eyes("c") & View.whether(Claim.always()))),
]
