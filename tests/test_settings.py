"""Settings: point [10], and point [11] for the number of pieces."""

import itertools
import unittest

from narrowingbits.errors import BadField, TooMany
from narrowingbits.settings import Setting

FAR = 2 ** 30
FIELDS = ("rect", "mode", "tx", "ty", "word", "planes", "layers", "order")
GOOD = {"rect": (0, 2, 0, 1), "mode": 0, "tx": 1, "ty": 0, "word": "X", "planes": 3, "layers": (9,),
        "order": "LBTC"}
# One wrong worth for each field of the point, in its order; rims are parts of the rect.
WRONG = (("x0", -FAR - 1), ("width", 33), ("y0", FAR + 1), ("height", 0), ("mode", 3), ("tx", 6),
         ("ty", -1), ("word", "Z"), ("planes", 21), ("layers", (1,)), ("order", "LBT"))


def setting(**changed):
    return Setting(**{**GOOD, **changed})


class SettingTest(unittest.TestCase):

    def refused(self, name, **changed):
        with self.assertRaises(BadField, msg=changed) as caught:
            setting(**changed)
        self.assertEqual(caught.exception.name, name, changed)

    def test_attributes(self):
        made = Setting((-1, 2, 4, 6), 2, 3, 1, "XYX", 4, [5, 7], "TLCB")
        told = [getattr(made, field) for field in FIELDS]
        self.assertEqual(told, [(-1, 2, 4, 6), 2, 3, 1, "XYX", 4, (5, 7), "TLCB"])
        self.assertIsInstance(made.rect, tuple)
        self.assertIsInstance(made.layers, tuple)

    def test_by_name(self):
        made = setting()
        for field in FIELDS:
            self.assertEqual(getattr(made, field), GOOD[field])

    def test_layers_as_a_list_and_as_a_tuple(self):
        for layers in ([4, 5], (4, 5)):
            made = setting(layers=layers)
            self.assertEqual(made.layers, (4, 5))
            self.assertIsInstance(made.layers, tuple)

    def test_layers_that_were_handed_in_may_be_changed(self):
        layers = [4, 5]
        made = setting(layers=layers)
        layers.append(9)
        layers[0] = 1
        self.assertEqual(made.layers, (4, 5))
        self.assertEqual(setting(layers=[4, 5]).layers, (4, 5))

    def test_x0(self):
        for x0 in (FAR - 1, -FAR, -FAR + 31):
            self.assertEqual(setting(rect=(x0, x0 + 1, 0, 1)).rect[0], x0)
        for x0 in (-FAR - 1, FAR + 1, -2 ** 40, 2 ** 40):
            self.refused("x0", rect=(x0, x0 + 1, 0, 1))

    def test_width(self):
        for width in (1, 2, 31, 32):
            for x0 in (-FAR, -5, 0, FAR - width):
                made = setting(rect=(x0, x0 + width, 0, 1), tx=5)
                self.assertEqual(made.rect, (x0, x0 + width, 0, 1))
        for width in (0, 33, -1, 34, 2 ** 40, -32):
            for x0 in (-FAR, -5, 0, 5):
                self.refused("width", rect=(x0, x0 + width, 0, 1))
        for x0, x1 in ((FAR, FAR + 1), (FAR - 31, FAR + 1), (FAR, FAR)):
            self.refused("width", rect=(x0, x1, 0, 1))

    def test_y0(self):
        for y0 in (FAR - 1, -FAR, -FAR + 31):
            self.assertEqual(setting(rect=(0, 1, y0, y0 + 1)).rect[2], y0)
        for y0 in (-FAR - 1, FAR + 1, -2 ** 40, 2 ** 40):
            self.refused("y0", rect=(0, 1, y0, y0 + 1))

    def test_height(self):
        for height in (1, 2, 31, 32):
            for y0 in (-FAR, -5, 0, FAR - height):
                made = setting(rect=(0, 1, y0, y0 + height), ty=5)
                self.assertEqual(made.rect, (0, 1, y0, y0 + height))
        for height in (0, 33, -1, 34, 2 ** 40, -32):
            for y0 in (-FAR, -5, 0, 5):
                self.refused("height", rect=(0, 1, y0, y0 + height))
        for y0, y1 in ((FAR, FAR + 1), (FAR - 31, FAR + 1), (FAR, FAR)):
            self.refused("height", rect=(0, 1, y0, y1))

    def test_mode(self):
        for mode in (0, 1, 2):
            self.assertEqual(setting(mode=mode).mode, mode)
        for mode in (-1, 3, 99):
            self.refused("mode", mode=mode)

    def test_tiles(self):
        for size in range(6):
            self.assertEqual(setting(tx=size, word="").tx, size)
            self.assertEqual(setting(ty=size).ty, size)
        for size in (-1, 6, 7):
            self.refused("tx", tx=size, word="")
            self.refused("ty", ty=size)

    def test_word(self):
        for tx, ty, word in ((0, 0, ""), (5, 5, ""), (1, 0, "X"), (0, 1, "Y"), (2, 1, "XYX"), (2, 2, "YX"),
                             (5, 5, "XXXXXYYYYY"), (5, 5, "XYXYXYXYXY")):
            self.assertEqual(setting(tx=tx, ty=ty, word=word).word, word)
        for tx, ty, word in ((0, 0, "X"), (0, 0, "Y"), (1, 5, "XX"), (5, 1, "YY"), (2, 1, "YXYX"),
                             (5, 5, "XXXXXX"), (5, 5, "YYYYYY"), (5, 5, "XXXXXYYYYYX"), (5, 5, "Z"),
                             (5, 5, "x"), (5, 5, "XyX"), (5, 5, "X Y"), (5, 5, " "), (5, 5, "-")):
            self.refused("word", tx=tx, ty=ty, word=word)

    def test_planes(self):
        for planes in (1, 2, 19, 20):
            self.assertEqual(setting(planes=planes, layers=(3 * planes,)).planes, planes)
        for planes in (0, -1, 21, 99):
            self.refused("planes", planes=planes, layers=(3 * planes,))

    def test_layers(self):
        for planes, layers in ((1, (3,)), (1, (1, 1, 1)), (2, (1,) * 6), (20, (60,)), (20, (10,) * 6)):
            self.assertEqual(setting(planes=planes, layers=layers).layers, layers)
        for layers in ((), (8,), (10,), (9, 1), (0, 9), (9, 0), (-1, 10), (4, 0, 5), (1,) * 6,
                       (1, 1, 1, 1, 1, 1, 3), (1,) * 9, (-9,), (18, -9), (3, 3)):
            self.refused("layers", layers=layers)
            self.refused("layers", layers=list(layers))

    def test_order(self):
        for letters in itertools.permutations("BCLT"):
            self.assertEqual(setting(order="".join(letters)).order, "".join(letters))
        for order in ("", "B", "BCL", "BCLL", "BCLTB", "bclt", "BCLX", "BBCLT", "TLCB ", "BCTT"):
            self.refused("order", order=order)

    def test_the_first_wrong_one_is_named(self):
        for first in range(len(WRONG)):
            for others in (WRONG[first + 1:], WRONG[first + 1:first + 2], WRONG[first + 2:]):
                worths = dict((WRONG[first],) + others)
                x0, y0 = worths.pop("x0", 0), worths.pop("y0", 0)
                rect = (x0, x0 + worths.pop("width", 2), y0, y0 + worths.pop("height", 1))
                self.refused(WRONG[first][0], rect=rect, **worths)

    def test_a_rim_and_the_side_behind_it(self):
        self.refused("x0", rect=(FAR + 1, FAR + 2, FAR + 1, FAR + 2))
        self.refused("width", rect=(FAR, FAR + 1, FAR + 1, FAR + 2))
        self.refused("y0", rect=(0, 1, FAR + 1, FAR + 2))
        self.refused("width", rect=(2, 0, 2, 0))
        self.refused("height", rect=(0, 2, 2, 0))


class PiecesTest(unittest.TestCase):

    def made(self, width, height, mode=0, tx=0, ty=0, word="", planes=2, layers=(6,), x0=0, y0=0):
        return Setting((x0, x0 + width, y0, y0 + height), mode, tx, ty, word, planes, layers, "BCLT")

    def refused(self, *sizes, **fields):
        with self.assertRaises(TooMany, msg=(sizes, fields)) as caught:
            self.made(*sizes, **fields)
        self.assertEqual(caught.exception.most, 2000)

    def test_two_thousand_and_more(self):
        self.made(25, 20, layers=(1, 1, 1, 3))
        self.refused(29, 23, mode=1)
        self.refused(29, 23, mode=2)
        self.made(28, 23, mode=2)
        self.made(25, 20, layers=(2, 2, 2), x0=-3, y0=-4)
        self.refused(26, 20, layers=(1, 1, 1, 3))
        self.refused(25, 21, layers=(1, 1, 1, 3))
        self.refused(25, 20, layers=(1, 1, 1, 1, 2))

    def test_the_channels_count(self):
        self.made(32, 32)
        self.refused(32, 32, mode=1)
        self.refused(32, 32, mode=2)

    def test_the_bands_count(self):
        # 32 * 8 tiles, 2 bands, 3 layers: 1536; with one letter more 3 bands: 2304.
        self.made(32, 16, ty=1, word="Y", layers=(1, 2, 3))
        self.refused(32, 32, tx=1, ty=1, word="XY", layers=(1, 2, 3))
        self.made(32, 32, tx=1, ty=1, word="Y", layers=(1, 2, 3))

    def test_the_tiles_count_as_the_rims_cut_them(self):
        # 32 cells are 8 tiles of 4 if a tile begins with them, else 9: 8 * 16 * 15, 9 * 16 * 15.
        self.made(32, 16, tx=2, word="XX", layers=(1, 1, 1, 1, 2))
        self.made(32, 16, tx=2, word="XX", layers=(1, 1, 1, 1, 2), x0=-8)
        for x0 in (1, 2, 3, -1, -2, -3):
            self.refused(32, 16, tx=2, word="XX", layers=(1, 1, 1, 1, 2), x0=x0)
        self.made(16, 32, ty=2, word="YY", layers=(1, 1, 1, 1, 2), y0=8)
        for y0 in (1, 2, 3, -1, -2, -3):
            self.refused(16, 32, ty=2, word="YY", layers=(1, 1, 1, 1, 2), y0=y0)

    def test_behind_all_fields(self):
        for field, worth in (("order", "BCL"), ("layers", (1,)), ("planes", 0), ("mode", 3), ("word", "X")):
            with self.assertRaises(BadField) as caught:
                Setting(**{**GOOD, "rect": (0, 32, 0, 32), "mode": 1, "tx": 0, "word": "", field: worth})
            self.assertEqual(caught.exception.name, field)


if __name__ == "__main__":
    unittest.main()
