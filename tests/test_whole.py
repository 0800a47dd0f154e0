"""What holds over the whole program: its interface, what it does to things handed in, and the road from end to end."""

import copy
import importlib
import inspect
import random
import unittest

from barlabel import errors
from barlabel.apart import apart
from barlabel.checks import is_good, labelled, mended
from barlabel.desk import Desk
from barlabel.founts import Fount
from barlabel.rolls import Roll
from barlabel.scans import edges_of, scanned
from barlabel.tables import Table
from barlabel.writing import marks, written
from samples import (BROAD, EITHER, FULL, LONG, NARROW, RING, labels_slowly, least_symbols, made_row, made_table,
                     made_tables, read_slowly)

# Each module's names with their arguments; a class's methods stand under it.
INTERFACE = {
    "tables": {"Table": "text", "Table.prime": "", "Table.cases": "", "Table.means": "case symbol", "Table.shown": "",
               "Table.read": "row"},
    "writing": {"marks": "table text", "written": "table text"},
    "checks": {"is_good": "prime row", "labelled": "prime row", "mended": "prime things"},
    "founts": {"Fount": "parts total start stop", "Fount.patterns": "", "Fount.printed": "row",
               "Fount.looked": "prime widths", "Fount.parts": "", "Fount.total": "", "Fount.start": "",
               "Fount.stop": ""},
    "scans": {"edges_of": "widths first unit", "scanned": "fount prime edges"},
    "rolls": {"Roll": "prime room", "Roll.parted": "row", "Roll.gathered": "labels", "Roll.all_labels": "labels"},
    "apart": {"apart": "one other"},
    "desk": {"Desk": "", "Desk.say": "row"},
}


class Interface(unittest.TestCase):
    def test_names_and_arguments(self):
        for module in INTERFACE:
            for name in INTERFACE[module]:
                with self.subTest(module=module, name=name):
                    thing = importlib.import_module(f"barlabel.{module}")
                    for word in name.split("."):
                        thing = getattr(thing, word)
                    arguments = [argument for argument in inspect.signature(thing).parameters if argument != "self"]
                    self.assertEqual(arguments, INTERFACE[module][name].split())

    def test_arguments_by_their_names(self):
        table = Table(text=EITHER)
        self.assertEqual(table.means(case=0, symbol=1), ("lock", 1))
        self.assertEqual(table.read(row=[0]), "a")
        self.assertEqual(written(table=table, text="a"), [0])
        self.assertEqual(marks(table=table, text=""), [[0, 0]])
        self.assertIs(is_good(prime=5, row=labelled(prime=5, row=[1])), True)
        self.assertEqual(mended(prime=5, things=[None, None]), [0, 0])
        fount = Fount(parts=4, total=7, start=[1, 2, 3, 1], stop=[2, 1, 1, 3, 2])
        widths = fount.printed(row=[3])
        self.assertEqual(fount.looked(prime=5, widths=widths), [3])
        self.assertEqual(scanned(fount=fount, prime=5, edges=edges_of(widths=widths, first=0, unit=1)), [3])
        roll = Roll(prime=7, room=1)
        labels = roll.parted(row=[3])
        self.assertEqual(roll.gathered(labels=labels), [3])
        self.assertEqual(roll.all_labels(labels=labels), labels)
        self.assertIsNone(apart(one=table, other=table))
        self.assertEqual(Desk().say(row="label 5"), "0 0")


def containers(thing):
    """The numbers by which each list, tuple and dict in it, itself too, is told from any other one."""
    if isinstance(thing, dict):
        return {id(thing)}.union(*[containers(part) for part in thing.values()])
    if isinstance(thing, (list, tuple)):
        # There is but one tuple without things.
        return ({id(thing)} if thing != () else set()).union(*[containers(part) for part in thing])
    return set()


def spoil(thing):
    """Changes all that the asker may change of his own."""
    if isinstance(thing, (list, tuple)):
        for part in thing:
            spoil(part)
    if isinstance(thing, list):
        thing.reverse()
        thing.append("changed")


def asks():
    """What may be asked, and the things handed in, as many as there are ways to be answered."""
    table, other = Table(FULL), Table(RING)
    fount, roll = Fount(*NARROW), Roll(7, 2)
    label = labelled(7, [1, 2, 3])
    widths = fount.printed(label)
    edges = edges_of(widths, -5, 16)
    labels = roll.parted([1, 2, 3])
    lone = roll.parted([])
    return [
        (table.means, (0, 0)), (table.means, (0, 2)), (table.means, (0, 3)), (table.means, (0, 5)),
        (table.read, ([0, 1, 2, 0],)), (table.read, ([],)), (marks, (table, "abc")), (marks, (table, "")),
        (marks, (table, "x")), (written, (table, "abc")), (written, (table, "")), (is_good, (7, label)),
        (labelled, (7, [1, 2, 3])), (labelled, (7, [])), (mended, (7, label)), (mended, (7, [None, None])),
        (mended, (7, label[:2] + [None] + label[3:])), (mended, (7, [(label[0] + 1) % 7] + label[1:])),
        (fount.patterns, ()), (fount.start, ()), (fount.stop, ()), (fount.printed, (label,)), (fount.printed, ([],)),
        (fount.looked, (7, widths)), (fount.looked, (7, widths[::-1])), (edges_of, (widths, 0, 3)),
        (edges_of, ([], 0, 3)), (scanned, (fount, 7, edges)), (roll.parted, ([1, 2, 3],)), (roll.parted, ([],)),
        (roll.gathered, (labels,)), (roll.gathered, (labels[1:],)), (roll.gathered, (lone,)),
        (roll.all_labels, (labels,)), (roll.all_labels, (labels[1:] * 2,)), (roll.all_labels, (lone[:1],)),
        (roll.all_labels, (labels[::-1],)), (apart, (table, other)), (apart, (table, table)),
    ]


class Own(unittest.TestCase):
    def test_nothing_handed_in_is_changed(self):
        for ask, things in asks():
            kept = copy.deepcopy([thing for thing in things if not isinstance(thing, (Table, Fount))])
            ask(*things)
            self.assertEqual([thing for thing in things if not isinstance(thing, (Table, Fount))], kept)

    def test_every_answer_is_a_new_one(self):
        for ask, things in asks():
            with self.subTest(ask=ask.__qualname__, things=things):
                answers = [ask(*things) for turn in range(3)]
                found = [containers(answer) for answer in answers]
                handed = containers([thing for thing in things])
                for number, ids in enumerate(found):
                    self.assertFalse(ids & handed)
                    self.assertFalse(ids & set().union(*found[:number]))

    def test_what_the_asker_does_to_an_answer_changes_no_later_one(self):
        for ask, things in asks():
            kept = copy.deepcopy(ask(*things))
            for turn in range(2):
                spoil(ask(*things))
                self.assertEqual(ask(*things), kept)

    def test_what_is_asked_later_changes_no_answer(self):
        answers = [(ask, things, ask(*things)) for ask, things in asks()]
        kept = copy.deepcopy([answer for ask, things, answer in answers])
        for ask, things, answer in answers:
            later = copy.deepcopy(ask(*things))
            self.assertEqual(later, answer)
        for ask, things, answer in answers:
            for thing in things:
                spoil(thing)
        self.assertEqual([answer for ask, things, answer in answers], kept)

    def test_no_list_within_an_answer_stands_twice(self):
        for ask, things in asks():
            answer = ask(*things)
            if isinstance(answer, list):
                inner = [id(part) for part in answer if isinstance(part, list)]
                self.assertEqual(len(inner), len(set(inner)), ask)


class Truths(unittest.TestCase):
    def check_refused(self, kind, function, *arguments):
        with self.subTest(function=function, arguments=arguments):
            with self.assertRaises(errors.LabelError) as caught:
                function(*arguments)
            self.assertIs(type(caught.exception), kind)

    def test_truths_are_no_whole_numbers(self):
        label = labels_slowly(7, 1, [1])[0]
        self.assertEqual(label[:4], [0, 1, 1, 1])
        for truth in (True, False):
            self.check_refused(errors.NoSymbol, Table(EITHER).read, [truth])
            self.check_refused(errors.NoSymbol, labelled, 5, [truth])
            self.check_refused(errors.NoSymbol, mended, 5, [truth, 0])
            self.check_refused(errors.NoSymbol, Fount(*NARROW).printed, [truth])
            self.check_refused(errors.NoSymbol, Roll(7, 1).parted, [truth])
            self.check_refused(errors.NoRoom, Roll, 7, truth)
            self.check_refused(errors.NoRoom, Roll, truth, 1)
            self.check_refused(errors.NoTable, Table, truth)
            self.check_refused(errors.NoWriting, written, Table(EITHER), truth)
            self.check_refused(errors.NoForm, Desk().say, truth)
            self.check_refused(errors.NoLabel, Roll(7, 1).gathered, [truth])
            self.check_refused(errors.NoLabel, Roll(7, 1).all_labels, [truth])
        for ask in (Roll(7, 1).gathered, Roll(7, 1).all_labels):
            self.check_refused(errors.NoLabel, ask, [[False] + label[1:]])
            for place in (1, 2, 3):
                self.check_refused(errors.NoLabel, ask, [label[:place] + [True] + label[place + 1:]])
        self.check_refused(errors.NoFount, Fount, 4, 7, [True, 2, 3, 1], [2, 1, 1, 3, 2])

    def test_numbers_given_are_no_truths(self):
        for ask, things in asks():
            for number in self.numbers_in(ask(*things)):
                self.assertIs(type(number), int)

    def numbers_in(self, answer):
        if isinstance(answer, (list, tuple)):
            return [number for part in answer for number in self.numbers_in(part)]
        return [] if answer is None or isinstance(answer, str) or answer is True else [answer]


def moved(chance, edges, unit):
    """Each edge off by at most an eighth of the unit; half of the time by as much as can be."""
    most = unit // 8
    moves = [-most, most] if chance.random() < 0.5 else range(-most, most + 1)
    return [edge + chance.choice(moves) for edge in edges]


def blotted(edges, parts, number):
    """The stretch of the symbol with this number is unreadable: its first bar is next to none."""
    edges = list(edges)
    first = (number + 1) * parts
    edges[first + 1] = edges[first] + 1
    return edges


def turned(edges, number):
    return [number - edge for edge in reversed(edges)]


class Road(unittest.TestCase):
    def edges_from(self, chance, fount, prime, label, harm):
        """The label's edges, one symbol of it another, or one or two unreadable, or as it was, from either end."""
        places = chance.sample(range(len(label)), 2)
        row = list(label)
        if harm == "one another":
            row[places[0]] = (row[places[0]] + chance.randint(1, prime - 1)) % prime
        unit = chance.choice([8, 16, 17, 100, 8 * 10 ** 17])
        edges = moved(chance, edges_of(fount.printed(row), chance.randint(-10 ** 9, 10 ** 9), unit), unit)
        for place in places[:{"one unreadable": 1, "two unreadable": 2}.get(harm, 0)]:
            edges = blotted(edges, fount.parts(), place)
        return turned(edges, chance.randint(-10 ** 9, 10 ** 9)) if chance.random() < 0.5 else edges

    def check_label(self, chance, fount, prime, label, harm):
        found = scanned(fount, prime, self.edges_from(chance, fount, prime, label, harm))
        unreadable = {"one unreadable": 1, "two unreadable": 2}.get(harm, 0)
        self.assertEqual(found.count(None), unreadable)
        self.assertEqual(found == label, harm == "none")
        read = mended(prime, found)
        self.assertEqual(read, label)
        return read

    def check_road(self, chance, table_text, made, room, text):
        table, fount = Table(table_text), Fount(*made)
        prime = table.prime()
        roll = Roll(prime, room)
        row = written(table, text)
        self.assertEqual(len(row), least_symbols(table_text, text))
        labels = roll.parted(row)
        lost = chance.randrange(len(labels) + 1)
        seen = []
        for number, label in enumerate(labels):
            if number != lost:
                for turn in range(chance.choice([1, 1, 2])):
                    harm = chance.choice(["none", "one another", "one unreadable", "two unreadable"])
                    seen.append(self.check_label(chance, fount, prime, label, harm))
        chance.shuffle(seen)
        self.assertEqual(roll.gathered(seen), row)
        self.assertEqual(roll.all_labels(seen), labels)
        self.assertEqual(table.read(roll.gathered(seen)), text)

    def made_text(self, chance, table_text, length):
        return read_slowly(table_text, made_row(chance, table_text, length))

    def test_of_a_small_table(self):
        chance = random.Random(3)
        for turn in range(60):
            for room in (1, 2):
                text = self.made_text(chance, FULL, chance.randint(0, 6 * room))
                self.check_road(chance, FULL, chance.choice([NARROW, BROAD, LONG]), room, text)

    def test_no_text(self):
        chance = random.Random(4)
        for turn in range(20):
            self.check_road(chance, FULL, NARROW, chance.choice([1, 2]), "")

    def test_of_other_primes(self):
        chance = random.Random(5)
        founts = {11: NARROW, 13: BROAD, 17: NARROW, 19: NARROW, 23: BROAD, 37: LONG, 43: BROAD, 47: LONG}
        for prime, made in founts.items():
            for turn in range(6):
                table_text = made_table(chance, prime, chance.randint(1, 4), "abc1")
                room = chance.randint(1, prime - 5)
                text = self.made_text(chance, table_text, chance.randint(0, min(200, (prime - 1) * room)))
                self.check_road(chance, table_text, made, room, text)

    def test_long_text(self):
        chance = random.Random(6)
        words = [word for row in ("abcdefghijklmnopqrstuvwxyz", "0123456789") for word in row]
        for room in (42, 15):
            rows = [" ".join(words[:26] + ["lock1", "shift1"] + ["-"] * 19),
                    " ".join(words[26:] + ["lock0", "shift0"] + ["-"] * 35)]
            table_text = "\n".join(["symbols 47"] + rows)
            text = "".join(chance.choice(words) for sign in range(300))
            self.check_road(chance, table_text, LONG, room, text)

    def test_each_harm_at_each_label(self):
        chance = random.Random(7)
        fount = Fount(*NARROW)
        for label in Roll(11, 4).parted([10, 0, 3, 3, 9, 1, 2]):
            for harm in ("none", "one another", "one unreadable", "two unreadable"):
                for turn in range(20):
                    self.check_label(chance, fount, 11, label, harm)

    def test_each_label_lost_by_itself(self):
        table, fount, roll = Table(FULL), Fount(*NARROW), Roll(7, 2)
        row = written(table, "cabd0")
        labels = roll.parted(row)
        edges = [edges_of(fount.printed(label), 7, 24) for label in labels]
        for lost in range(len(labels)):
            seen = [mended(7, scanned(fount, 7, turned(edges[number], 3)))
                    for number in range(len(labels)) if number != lost]
            self.assertEqual(roll.all_labels(seen[::-1] * 2), labels)
            self.assertEqual(table.read(roll.gathered(seen[::-1] * 2)), "cabd0")

    def test_two_lost_are_told(self):
        roll = Roll(7, 1)
        labels = roll.parted(written(Table(FULL), "aabb"))
        with self.assertRaises(errors.Lost) as caught:
            roll.gathered([labels[4], labels[1], labels[0]])
        self.assertEqual(caught.exception.numbers, [2, 3])

    def test_two_symbols_exchanged_are_told(self):
        fount = Fount(*NARROW)
        for label in Roll(11, 4).parted([10, 0, 3, 3, 9, 1, 2]):
            for one in range(len(label)):
                for other in range(one):
                    if label[one] != label[other]:
                        row = list(label)
                        row[one], row[other] = label[other], label[one]
                        found = scanned(fount, 11, edges_of(fount.printed(row), 0, 9))
                        with self.assertRaises(errors.Spoilt):
                            mended(11, found)

    def test_by_the_desk(self):
        chance = random.Random(8)
        for table_text in made_tables(9, 10, "abc"):
            desk, text = Desk(), self.made_text(chance, table_text, 12)
            prime = Table(table_text).prime()
            self.assertEqual(desk.say(f"table one {table_text}"), "ok")
            answer = desk.say(f"write one {text}")
            row = [] if answer == "none" else [int(word) for word in answer.split(" ")]
            for first in range(0, len(row), prime - 2):
                piece = row[first:first + prime - 2]
                label = desk.say(" ".join(map(str, ["label", prime] + piece))).split(" ")
                label[chance.randrange(len(label))] = "-"
                found = desk.say(" ".join(["mend", str(prime)] + label)).split(" ")
                self.assertEqual(found[:-2], [str(symbol) for symbol in piece])
            self.assertEqual(desk.say(" ".join(map(str, ["read", "one"] + row))), text)


if __name__ == "__main__":
    unittest.main()
