"""Plans and runs as texts: a row for each work and for each telling.

Between a plan's tree and its rows stand entries, tuples (depth, weight, kind, name, steps), one for each work: the
depth is how many elders it has; the weight is None where there is none, as are the steps.
"""

from howfar.course import tellings_of
from howfar.errors import BadRows, BadRun
from howfar.forms import is_name, is_steps, is_telling, is_weight
from howfar.trees import BUNDLE, LEAF, MOST_PARTS, MOST_WITHIN, MOST_WORKS, ROW
from howfar.works import tree_of, work_of

BLANKS = "  "
NOT_KNOWN = "?"
MOST_DIGITS = 4


def written(plan):
    """The plan as a text."""
    return "\n".join([entry_row(entry) for entry in entries_in(tree_of(plan), 0, None)])


def read(text):
    """The plan that the text writes, or BadRows."""
    entries = []
    for number, row in enumerate(rows_in(text)):
        entry = entry_in(row)
        if entry is None or not can_stand(entry, entries):
            raise BadRows(number)
        entries.append(entry)
    if needs_parts(entries[-1]):
        raise BadRows(len(entries))
    return work_of(tree_from(entries))


def written_run(run):
    """The run as a text; BadRun where a telling has none of the four forms, whatever the plan."""
    rows = []
    for place, telling in enumerate(tellings_of(run)):
        if not is_telling(telling):
            raise BadRun(place)
        rows.append(words_row(telling))
    return "\n".join(rows)


def read_run(text):
    """The run that the text writes, whatever the plan, or BadRows."""
    rows = rows_in(text)
    run = []
    # A text without signs is split into one empty row, but it has no tellings.
    if rows == [""]:
        return run
    for number, row in enumerate(rows):
        telling = telling_in(row)
        if telling is None:
            raise BadRows(number)
        run.append(telling)
    return run


def rows_in(text):
    """The rows of a text, one at least, or BadRows."""
    if not isinstance(text, str):
        raise BadRows(0)
    return text.split("\n")


def words_row(words):
    """The row of these words: texts, numbers, and None for steps that aren't known."""
    return " ".join([NOT_KNOWN if word is None else str(word) for word in words])


def entries_in(tree, depth, weight):
    """The entries of all works in the tree, which is so deep and has such a weight."""
    kind, name, steps, parts = tree
    entries = [(depth, weight, kind, name, steps)]
    for each, part in parts:
        entries.extend(entries_in(part, depth + 1, each))
    return entries


def entry_row(entry):
    """The row that writes the entry."""
    depth, weight, kind, name, steps = entry
    words = [kind, name, steps] if kind == LEAF else [kind, name]
    if depth > 0:
        words.insert(0, weight)
    return BLANKS * depth + words_row(words)


def entry_in(row):
    """The entry that the row writes, None where it writes none."""
    words = row.lstrip(" ").split(" ")
    depth, odd = divmod(len(row) - len(row.lstrip(" ")), len(BLANKS))
    weight = None
    if odd > 0:
        return None
    if depth > 0:
        weight = number_in(words.pop(0))
        if not is_weight(weight):
            return None
    match words:
        case ["leaf", name, word]:
            entry = (depth, weight, LEAF, name, steps_in(word))
        case ["row", name]:
            entry = (depth, weight, ROW, name, None)
        case ["bundle", name]:
            entry = (depth, weight, BUNDLE, name, None)
        case _:
            return None
    return entry if is_name(entry[3]) and is_steps(entry[4]) else None


def telling_in(row):
    """The telling that the row writes, None where it writes none."""
    match row.split(" "):
        case ["did", name, many]:
            telling = ("did", name, number_in(many))
        case ["knows", name, steps]:
            telling = ("knows", name, number_in(steps))
        case ["found", name, weight, leaf, steps]:
            telling = ("found", name, number_in(weight), leaf, steps_in(steps))
        case ["again", name]:
            telling = ("again", name)
        case _:
            return None
    return telling if is_telling(telling) else None


def number_in(word):
    """The number that the word writes; 0, which no row can hold, where it writes none."""
    # More digits are beyond all bounds, and Python itself refuses to read very many.
    if not 1 <= len(word) <= MOST_DIGITS or word[0] == "0":
        return 0
    return int(word) if all("0" <= sign <= "9" for sign in word) else 0


def steps_in(word):
    """The steps that the word writes, None where they aren't known; 0 where it writes none."""
    return None if word == NOT_KNOWN else number_in(word)


def can_stand(entry, ahead):
    """Whether the entry can stand behind those ahead, and with them breaks no bound of a plan."""
    depth, name = entry[0], entry[3]
    if not ahead:
        return depth == 0
    if not fits_behind(depth, ahead[-1]) or depth >= MOST_WITHIN:
        return False
    if len(ahead) == MOST_WORKS or name in [each[3] for each in ahead]:
        return False
    return parts_ahead(depth, ahead) < MOST_PARTS


def fits_behind(depth, last):
    """Whether an entry so deep can stand straight behind the last one."""
    if needs_parts(last):
        return depth == last[0] + 1
    return 1 <= depth <= last[0]


def needs_parts(entry):
    """Whether the entry is a row's or a bundle's, so that the next one has to be its first part."""
    return entry[2] != LEAF


def parts_ahead(depth, ahead):
    """How many of the entries ahead have the same elder as the next one, which is so deep."""
    many = 0
    for each in reversed(ahead):
        if each[0] < depth:
            break
        if each[0] == depth:
            many += 1
    return many


def tree_from(entries):
    """The tree of the works that have these entries."""
    # By their depth, the parts that wait for their elder, the last one first.
    waiting = {}
    for depth, weight, kind, name, steps in reversed(entries):
        parts = waiting.pop(depth + 1, [])
        waiting.setdefault(depth, []).append((weight, (kind, name, steps, tuple(parts[::-1]))))
    return waiting[0][0][1]
