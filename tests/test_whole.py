"""What is promised over the whole program, by deeds one behind another [1, 2, 3]."""

import random
import unittest

from tests import samples, slow
from tests.samples import same
from tests.slow import depths_slowly, is_plan_slowly, room_map
from tests.test_desk import chance_row, in_a_row
from tests.test_plans import chance_deed
from wallplan.changes import changed, common
from wallplan.desk import Desk
from wallplan.errors import PlanError
from wallplan.fits import fit
from wallplan.plans import EMPTY, group_moved, is_plan, thing_put
from wallplan.rings import parts, rings
from wallplan.roomlook import rooms_shown
from wallplan.rooms import cell_at, outside, rooms
from wallplan.texts import read, written
from wallplan.ways import are_depths, depths, ways


def runs(many, long):
    """Runs of deeds by chance: lists of (plan, deed, what is handed in, plan behind it), the same plan if refused."""
    found = []
    for seed in range(many):
        chance = random.Random(100 + seed)
        plan = slow.chance_plans()[seed * 3] if seed % 2 else EMPTY
        steps = []
        for _ in range(long):
            deed, handed = chance_deed(chance, plan)
            try:
                new = deed(plan, *handed)
            except PlanError:
                new = plan
            steps.append((plan, deed, handed, new))
            plan = new
        found.append(steps)
    return found


RUNS = runs(12, 40)


def plans_of_runs():
    """The unlike plans that come in these runs."""
    found = {new: True for steps in RUNS for _, _, _, new in steps}
    return list(found)


class WholeTest(unittest.TestCase):
    def test_enough_is_done(self):
        self.assertGreater(len(plans_of_runs()), 150)
        done = {deed.__name__ for steps in RUNS for plan, deed, _, new in steps if new != plan}
        self.assertEqual(len(done), 9, done)

    def test_each_plan_is_a_plan(self):
        for plan in plans_of_runs():
            self.assertTrue(is_plan(plan))
            self.assertTrue(is_plan_slowly(plan))
            self.assertTrue(rooms_shown(plan[0], rooms(plan[0])))

    def test_there_are_as_many_rooms_as_walls_less_corners_and_parts_put_to_it(self):
        for plan in plans_of_runs():
            corners, walls = plan[0]
            self.assertEqual(len(rooms(plan[0])), len(walls) - len(corners) + len(parts(plan[0])))

    def test_each_cell_within_walls_is_of_just_one_room(self):
        for plan in plans_of_runs()[::4]:
            known = room_map(plan[0])
            wide, high = samples.reach(plan[0])
            for x in range(-1, wide + 1):
                for y in range(-1, high + 1, 3):
                    self.assertEqual(cell_at(plan[0], x, y), known.get((x, y)))
            for number, (_, _, area) in enumerate(rooms(plan[0])):
                self.assertEqual(list(known.values()).count(number), area)

    def test_a_move_keeps_rings_and_rims(self):
        moved = 0
        for steps in RUNS:
            for plan, deed, _, new in steps:
                if deed is group_moved and new != plan:
                    moved += 1
                    self.assertEqual(new[0][1], plan[0][1])
                    self.assertEqual(rings(new[0]), rings(plan[0]))
                    self.assertEqual([room[:2] for room in rooms(new[0])], [room[:2] for room in rooms(plan[0])])
                    self.assertEqual(outside(new[0]), outside(plan[0]))
                    self.assertTrue(all(area > 0 for _, _, area in rooms(new[0])))
        self.assertGreater(moved, 10)

    def test_ways_out_are_shown(self):
        for plan in plans_of_runs():
            for w in (1, 2):
                told = depths(plan, w)
                self.assertEqual(told, depths_slowly(plan, w))
                self.assertIs(are_depths(plan, w, told), True)
                self.assertEqual([None if way is None else len(way) for way in ways(plan, w)], list(told))

    def test_where_a_thing_fits_it_is_let_by(self):
        for plan in plans_of_runs()[::3]:
            for room in range(len(rooms(plan[0]))):
                spot = fit(plan, room, 2, 1)
                if spot is not None:
                    new = thing_put(plan, ("zzzz", *spot, 2, 1))
                    self.assertTrue(is_plan(new))
                    self.assertEqual(changed(plan, new), ((), (), (), ("zzzz",)))

    def test_what_a_deed_changes_comes_to_the_areas(self):
        for steps in RUNS:
            for plan, _, _, new in steps:
                told = common(plan[0], new[0])
                for number, (_, _, area) in enumerate(rooms(new[0])):
                    self.assertEqual(sum(cells for _, j, cells in told if j == number), area)
                if plan == new:
                    self.assertEqual(changed(plan, new), ((), (), (), ()))

    def test_written_and_read_it_is_the_same(self):
        for plan in plans_of_runs():
            self.assertTrue(same(read(written(plan)), plan))
            self.assertEqual(Desk().say("load " + in_a_row(plan)), "ok")

    def test_done_again_it_is_the_same(self):
        again = runs(3, 40)
        self.assertTrue(again == RUNS[:3])


class UndoneTest(unittest.TestCase):
    def test_what_is_undone_is_as_it_was(self):
        for seed in range(6):
            chance = random.Random(200 + seed)
            desk = Desk()
            shown = ["empty"]
            for _ in range(400):
                text = desk.say("show")
                plan = read("" if text == "empty" else text.replace(" ; ", "\n"))
                row = chance_row(chance, plan)
                if row in ("undo", "redo"):
                    continue
                deed = row.split(" ")[0] not in ("show", "rooms", "cell", "room", "fit", "depths", "out", "changes")
                if desk.say(row) == "ok" and deed:
                    shown.append(desk.say("show"))
            self.assertGreater(len(shown), 60)
            for text in shown[-2::-1]:
                self.assertEqual((desk.say("undo"), desk.say("show")), ("ok", text))
            self.assertEqual(desk.say("undo"), "none")
            for text in shown[1:]:
                self.assertEqual((desk.say("redo"), desk.say("show")), ("ok", text))
            self.assertEqual(desk.say("redo"), "none")
