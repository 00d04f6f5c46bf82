"""Promises 0.1 and 0.2 over the whole program: a desk, its crate shared out, a volume lost, joined, read and rescued."""

import random
import unittest

from some_trees import DEEDS, WORDS, random_tree

from filecrate.crates import changed, crate_of, earlier, history, listed, read, rounds, spare_bytes, squeezed, taken
from filecrate.desks import Desk
from filecrate.errors import BadCrate, BadVolume, Missing
from filecrate.links import landing, ways_out
from filecrate.rescue import rescued
from filecrate.trees import differences, put_under, tree_of, under
from filecrate.volumes import joined, said, shared

FIRST = tree_of((("file", "src/main.py", DEEDS), ("link", "start", "src/main.py"), ("file", "read.me", tuple(b"how to use it"))))


def worked_desk():
    """A desk at which deeds were done, taken back and kept, and the trees that were kept."""
    desk = Desk(crate_of(FIRST))
    kept = [FIRST]
    desk.put(("file", "src/words", WORDS))
    desk.move("src", "code")
    desk.put(("link", "start", "code/main.py"))
    desk.save()
    kept.append(desk.tree())
    desk.drop("code")
    desk.undo()
    desk.drop("read.me")
    desk.put(("link", "out", "../read.me"))
    desk.save()
    kept.append(desk.tree())
    return desk, kept


class JourneyTest(unittest.TestCase):
    def test_one_crate_all_the_way(self):
        desk, kept = worked_desk()
        crate = desk.crate()
        volumes = shared(crate, 64)
        for out in range(len(volumes)):
            had = volumes[out + 1:] + volumes[:out]
            self.assertNotIn((out, len(volumes) - 1), [said(volume) for volume in had])
            again = joined(had)
            self.assertEqual(again, crate)
            self.assertEqual(read(again), desk.tree())
        self.assertEqual(rounds(crate), 3)
        self.assertEqual([read(some) for some in (earlier(earlier(crate)), earlier(crate), crate)], kept)
        self.assertEqual(landing(read(crate), "start"), "code/main.py")
        self.assertEqual(ways_out(read(crate)), ("out",))
        self.assertEqual(history(crate, "read.me"), (FIRST[0], FIRST[0], None))
        self.assertEqual(taken(crate, "code/words"), ("file", "code/words", WORDS))
        self.assertEqual(listed(crate)[1][:3], ("code/main.py", "file", len(DEEDS)))

    def test_two_volumes_lost_then_one_found(self):
        crate = worked_desk()[0].crate()
        volumes = shared(crate, 50)
        with self.assertRaises(Missing) as caught:
            joined(volumes[:1] + volumes[3:])
        self.assertEqual(caught.exception.numbers, (1, 2))
        self.assertEqual(joined(volumes[:1] + volumes[3:] + volumes[2:3]), crate)

    def test_a_spoilt_volume_is_left_out(self):
        crate = worked_desk()[0].crate()
        volumes = shared(crate, 50)
        spoilt = volumes[1][:20] + (volumes[1][20] ^ 4,) + volumes[1][21:]
        had = []
        for volume in volumes[:1] + (spoilt,) + volumes[2:]:
            try:
                said(volume)
                had.append(volume)
            except BadVolume:
                pass
        self.assertEqual(len(had), len(volumes) - 1)
        self.assertEqual(joined(tuple(had)), crate)

    def test_a_cut_crate_is_rescued_and_kept_anew(self):
        desk, kept = worked_desk()
        crate = desk.crate()
        cut = crate[:-1]
        with self.assertRaises(BadCrate):
            read(cut)
        # Entries of later rounds come behind, so the last one with a path counts.
        tree = tree_of(rescued(cut))
        self.assertEqual(set(tree), {entry for some in kept for entry in some} - {("link", "start", "src/main.py")})
        again = Desk(crate_of(tree))
        again.drop("src")
        again.drop("read.me")
        self.assertEqual(again.tree(), kept[2])
        self.assertEqual(read(again.save()), kept[2])
        self.assertEqual(rescued(crate_of(kept[2])), kept[2])

    def test_squeezed_it_has_no_spare_bytes(self):
        crate = worked_desk()[0].crate()
        self.assertGreater(spare_bytes(crate), 0)
        small = squeezed(crate)
        self.assertEqual((read(small), rounds(small), spare_bytes(small)), (read(crate), 1, 0))
        self.assertLess(len(small), len(crate))

    def test_a_crate_kept_in_a_crate(self):
        inner = crate_of(FIRST)
        outer = crate_of((("file", "inner", inner),))
        self.assertEqual(read(taken(outer, "inner")[2]), FIRST)
        self.assertEqual(joined(shared(outer, 30)[1:]), outer)

    def test_parts_of_trees_come_through(self):
        crate = crate_of(FIRST)
        part = under(read(crate), "src")
        grown = put_under(FIRST, "src", part + (("file", "words", WORDS),))
        again = changed(crate, grown)
        self.assertEqual(differences(read(crate), read(again)), (("new", "src/words"),))

    def test_random_crates_all_the_way(self):
        dice = random.Random(70)
        for _ in range(15):
            crate = crate_of(random_tree(dice))
            for _ in range(dice.randint(0, 3)):
                crate = changed(crate, random_tree(dice))
            volumes = list(shared(crate, dice.choice((1, 9, 40, 200, 1000))))
            dice.shuffle(volumes)
            volumes.pop()
            self.assertEqual(joined(tuple(volumes)), crate)
            self.assertEqual([entry for entry in read(crate) if entry not in rescued(crate)], [])


if __name__ == "__main__":
    unittest.main()
