package stock

import (
	"slices"
	"strconv"
	"testing"

	"stevedore/api"
)

// move is what a case of Move does, and what comes of it: then is the quants behind it, in words.
type move struct {
	why, items, bins, quants, key string
	qty                           int
	to                            string
	want                          api.Errno
	then                          string
}

// moves makes every move of some cases.
func moves(t *testing.T, cases []move) {
	t.Helper()
	for _, c := range cases {
		h := laid(c.items, c.bins, c.quants)
		g, e := Move(h, keyOf(c.key), c.qty, c.to)
		what := c.why + ": Move of " + strconv.Itoa(c.qty) + " of " + c.key + " to " + strconv.Quote(c.to)
		outcome(t, what, g, e, laid(c.items, c.bins, c.then), c.want)
		same(t, what+": the house that was passed", h, laid(c.items, c.bins, c.quants))
	}
}

// TestMove: P12.5, what goes and what comes; only the bin of the key changes.
func TestMove(t *testing.T) {
	moves(t, []move{
		{"some", "nut=3,1", "a=99,99 b=99,99", "b/nut//1=5", "b/nut//1", 3, "a", api.OK, "a/nut//1=3 b/nut//1=2"},
		{"some, to a bin behind", "nut=3,1", "b=99,99 c=99,99", "b/nut//1=5", "b/nut//1", 3, "c", api.OK, "b/nut//1=2 c/nut//1=3"},
		{"all", "nut=3,1", "a=99,99 b=99,99", "b/nut//1=5", "b/nut//1", 5, "a", api.OK, "a/nut//1=5"},
		{"all of one", "nut=3,1", "a=99,99 b=99,99", "b/nut//1=1", "b/nut//1", 1, "a", api.OK, "a/nut//1=1"},
		{"all that is free; what is held stays", "nut=3,1", "a=99,99 b=99,99", "b/nut//1=5:2", "b/nut//1", 3, "a", api.OK, "a/nut//1=3 b/nut//1=2:2"},
		{"to more of it", "nut=3,1", "a=99,99 b=99,99", "a/nut//1=4 b/nut//1=5", "b/nut//1", 3, "a", api.OK, "a/nut//1=7 b/nut//1=2"},
		{"to more of it, of which some is held", "nut=3,1", "a=99,99 b=99,99", "a/nut//1=4:4 b/nut//1=5:1", "b/nut//1", 3, "a", api.OK, "a/nut//1=7:4 b/nut//1=2:1"},
		{"all, to more of it", "nut=3,1", "a=99,99 b=99,99", "a/nut//1=4:1 b/nut//1=5 c/nut//1=6", "b/nut//1", 5, "a", api.OK, "a/nut//1=9:1 c/nut//1=6"},
		{"in a lot and a status", "nut=3,1", "a=99,99 b=99,99", "b/nut/7/2=5", "b/nut/7/2", 3, "a", api.OK, "a/nut/7/2=3 b/nut/7/2=2"},
		{"beside other items, lots and statuses", "bolt=1,1 nut=3,1", "a=99,99 b=99,99", "a/bolt/7/1=1 a/nut/6/1=2 a/nut/7/2=3 b/nut/7/1=5", "b/nut/7/1", 3, "a", api.OK, "a/bolt/7/1=1 a/nut/6/1=2 a/nut/7/1=3 a/nut/7/2=3 b/nut/7/1=2"},
		{"from among other items, lots and statuses", "bolt=1,1 nut=3,1", "a=99,99 b=99,99", "b/bolt/7/1=1 b/nut/6/1=2 b/nut/7/1=5 b/nut/7/2=3", "b/nut/7/1", 5, "a", api.OK, "a/nut/7/1=5 b/bolt/7/1=1 b/nut/6/1=2 b/nut/7/2=3"},
		{"a status and a lot that are none", "nut=3,1", "a=99,99 b=99,99", "b/nut/l.o.t/-4=5", "b/nut/l.o.t/-4", 3, "a", api.OK, "a/nut/l.o.t/-4=3 b/nut/l.o.t/-4=2"},
		{"a bin of the key that is not there", "nut=3,1", "a=99,99", "b/nut//1=5", "b/nut//1", 3, "a", api.OK, "a/nut//1=3 b/nut//1=2"},
		{"a bin of the key that is overfull", "nut=3,1", "a=99,99 b=0,0", "b/nut//1=5", "b/nut//1", 3, "a", api.OK, "a/nut//1=3 b/nut//1=2"},
		{"from no bin", "nut=3,1", "a=99,99", "/nut//1=5", "/nut//1", 3, "a", api.OK, "/nut//1=2 a/nut//1=3"},
		{"to a bin without a code", "nut=3,1", "=99,99 b=99,99", "b/nut//1=5", "b/nut//1", 3, "", api.OK, "/nut//1=3 b/nut//1=2"},
		{"an item without a code", "=3,1", "a=99,99 b=99,99", "b///1=5", "b///1", 3, "a", api.OK, "a///1=3 b///1=2"},

		// The greatest quantity.
		{"up to the greatest", "nut=0,0", "a=0,0 b=0,0", "a/nut//1=999999997 b/nut//1=5", "b/nut//1", 3, "a", api.OK, "a/nut//1=1000000000 b/nut//1=2"},
		{"beyond the greatest", "nut=0,0", "a=0,0 b=0,0", "a/nut//1=999999998 b/nut//1=5", "b/nut//1", 3, "a", api.ErrQty, ""},
		{"all, up to the greatest", "nut=0,0", "a=0,0 b=0,0", "a/nut//1=999999995 b/nut//1=5", "b/nut//1", 5, "a", api.OK, "a/nut//1=1000000000"},
		{"all, beyond the greatest", "nut=0,0", "a=0,0 b=0,0", "a/nut//1=999999996 b/nut//1=5", "b/nut//1", 5, "a", api.ErrQty, ""},

		// Quantities that commands do not make.
		{"to less than none, and then none", "nut=3,1", "a=99,99 b=99,99", "a/nut//1=-3 b/nut//1=5", "b/nut//1", 3, "a", api.OK, "b/nut//1=2"},
		{"all, to less than none, and then none", "nut=3,1", "a=99,99 b=99,99", "a/nut//1=-5:2 b/nut//1=5", "b/nut//1", 5, "a", api.OK, ""},
		{"to less than none, and still", "nut=3,1", "a=99,99 b=99,99", "a/nut//1=-4 b/nut//1=5", "b/nut//1", 3, "a", api.OK, "a/nut//1=-1 b/nut//1=2"},
		{"to none", "nut=3,1", "a=99,99 b=99,99", "a/nut//1=0:4 b/nut//1=5", "b/nut//1", 3, "a", api.OK, "a/nut//1=3:4 b/nut//1=2"},
		{"to the least number there is", "nut=0,0", "a=0,0 b=0,0", "a/nut//1=-9223372036854775808 b/nut//1=5", "b/nut//1", 3, "a", api.OK, "a/nut//1=-9223372036854775805 b/nut//1=2"},
		{"to the greatest number there is", "nut=0,0", "a=0,0 b=0,0", "a/nut//1=9223372036854775807 b/nut//1=5", "b/nut//1", 3, "a", api.ErrQty, ""},
		{"from the greatest number there is", "nut=0,0", "a=0,0 b=0,0", "b/nut//1=9223372036854775807", "b/nut//1", 3, "a", api.OK, "a/nut//1=3 b/nut//1=9223372036854775804"},
		{"what is free wraps around", "nut=3,1", "a=99,99 b=99,99", "b/nut//1=9223372036854775807:-1", "b/nut//1", 3, "a", api.ErrHeld, ""},

		// Lists in no order, or with a key or a code twice.
		{"quants in no order", "nut=3,1", "a=99,99 b=99,99", "d/nut//1=1 b/nut//1=5 c/nut//1=2", "b/nut//1", 3, "a", api.OK, "a/nut//1=3 d/nut//1=1 b/nut//1=2 c/nut//1=2"},
		{"quants in no order, all", "nut=3,1", "b=99,99 c=99,99", "b/nut//1=5 d/nut//1=1 a/nut//1=2", "b/nut//1", 5, "c", api.OK, "c/nut//1=5 d/nut//1=1 a/nut//1=2"},
		{"quants in no order, behind all", "nut=3,1", "b=99,99 e=99,99", "d/nut//1=1 b/nut//1=5 c/nut//1=2", "b/nut//1", 3, "e", api.OK, "d/nut//1=1 b/nut//1=2 c/nut//1=2 e/nut//1=3"},
		{"the key twice: from the first", "nut=3,1", "a=99,99 b=99,99", "b/nut//1=5 b/nut//1=9", "b/nut//1", 3, "a", api.OK, "a/nut//1=3 b/nut//1=2 b/nut//1=9"},
		{"the key twice: all of the first", "nut=3,1", "a=99,99 b=99,99", "b/nut//1=5 b/nut//1=9", "b/nut//1", 5, "a", api.OK, "a/nut//1=5 b/nut//1=9"},
		{"the key twice: the first has too few", "nut=3,1", "a=99,99 b=99,99", "b/nut//1=5 b/nut//1=9", "b/nut//1", 6, "a", api.ErrShort, ""},
		{"the other key twice: to the first", "nut=3,1", "a=99,99 b=99,99", "a/nut//1=1 a/nut//1=9 b/nut//1=5", "b/nut//1", 3, "a", api.OK, "a/nut//1=4 a/nut//1=9 b/nut//1=2"},
		{"bins in no order", "nut=3,1", "c=0,0! a=9,3 b=0,0", "b/nut//1=5", "b/nut//1", 3, "a", api.OK, "a/nut//1=3 b/nut//1=2"},
		{"the first bin has room", "nut=3,1", "a=9,3 a=0,0 b=0,0", "b/nut//1=5", "b/nut//1", 3, "a", api.OK, "a/nut//1=3 b/nut//1=2"},
		{"the second bin has room", "nut=3,1", "a=8,3 a=99,99 b=0,0", "b/nut//1=5", "b/nut//1", 3, "a", api.ErrBinFull, ""},
		{"the second bins are frozen", "nut=3,1", "a=99,99 a=99,99! b=99,99 b=99,99!", "b/nut//1=5", "b/nut//1", 3, "a", api.OK, "a/nut//1=3 b/nut//1=2"},
		{"the first bin is frozen", "nut=3,1", "a=99,99! a=99,99 b=99,99", "b/nut//1=5", "b/nut//1", 3, "a", api.ErrFrozen, ""},
		{"the first bin of the key is frozen", "nut=3,1", "a=99,99 b=99,99! b=99,99", "b/nut//1=5", "b/nut//1", 3, "a", api.ErrFrozen, ""},
		{"the first item says, which is less", "nut=3,1 nut=9,9", "a=9,3 b=0,0", "b/nut//1=5", "b/nut//1", 3, "a", api.OK, "a/nut//1=3 b/nut//1=2"},
		{"the first item says, which is more", "nut=9,9 nut=3,1", "a=9,3 b=0,0", "b/nut//1=5", "b/nut//1", 3, "a", api.ErrBinFull, ""},
	})
}

// TestMoveRoom: P12.5, a bin that is just full behind it, and one more, by volume and by weight.
func TestMoveRoom(t *testing.T) {
	moves(t, []move{
		{"just the volume", "nut=3,1", "a=9,99 b=0,0", "b/nut//1=5", "b/nut//1", 3, "a", api.OK, "a/nut//1=3 b/nut//1=2"},
		{"one piece more", "nut=3,1", "a=9,99 b=99,99", "b/nut//1=5", "b/nut//1", 4, "a", api.ErrBinFull, ""},
		{"the volume one too many", "nut=3,1", "a=8,99 b=99,99", "b/nut//1=5", "b/nut//1", 3, "a", api.ErrBinFull, ""},
		{"just the weight", "nut=1,3", "a=99,9 b=0,0", "b/nut//1=5", "b/nut//1", 3, "a", api.OK, "a/nut//1=3 b/nut//1=2"},
		{"one piece more, by weight", "nut=1,3", "a=99,9 b=99,99", "b/nut//1=5", "b/nut//1", 4, "a", api.ErrBinFull, ""},
		{"the weight one too many", "nut=1,3", "a=99,8 b=99,99", "b/nut//1=5", "b/nut//1", 3, "a", api.ErrBinFull, ""},
		{"just both", "nut=3,1", "a=9,3 b=0,0", "b/nut//1=5", "b/nut//1", 3, "a", api.OK, "a/nut//1=3 b/nut//1=2"},
		{"beside what stands there, just both", "bolt=5,7 nut=3,1", "a=22,18 b=0,0", "a/bolt/7/3=2 a/nut//1=1 a/nut//2=1 b/nut//1=5", "b/nut//1", 2, "a", api.OK, "a/bolt/7/3=2 a/nut//1=3 a/nut//2=1 b/nut//1=3"},
		{"beside what stands there, the volume one too many", "bolt=5,7 nut=3,1", "a=21,18 b=99,99", "a/bolt/7/3=2 a/nut//1=1 a/nut//2=1 b/nut//1=5", "b/nut//1", 2, "a", api.ErrBinFull, ""},
		{"beside what stands there, the weight one too many", "bolt=5,7 nut=3,1", "a=22,17 b=99,99", "a/bolt/7/3=2 a/nut//1=1 a/nut//2=1 b/nut//1=5", "b/nut//1", 2, "a", api.ErrBinFull, ""},
		{"all, just both", "nut=3,1", "a=15,5 b=0,0", "b/nut//1=5", "b/nut//1", 5, "a", api.OK, "a/nut//1=5"},
		{"all, and too much", "nut=3,1", "a=14,5 b=99,99", "b/nut//1=5", "b/nut//1", 5, "a", api.ErrBinFull, ""},
		{"what takes no room into a full bin", "air=0,0 nut=3,1", "a=3,1 b=0,0", "a/nut//1=1 b/air//1=5", "b/air//1", 3, "a", api.OK, "a/air//1=3 a/nut//1=1 b/air//1=2"},
		{"what takes no room into an overfull bin", "air=0,0 nut=3,1", "a=2,1 b=0,0", "a/nut//1=1 b/air//1=5", "b/air//1", 3, "a", api.ErrBinFull, ""},
		{"other bins make no difference", "nut=3,1", "a=9,3 b=0,0 c=0,0", "b/nut//1=5 c/nut//1=9", "b/nut//1", 3, "a", api.OK, "a/nut//1=3 b/nut//1=2 c/nut//1=9"},
		{"beside an item that is not there", "nut=3,1", "a=9,3 b=0,0", "a/gone//1=99 b/nut//1=5", "b/nut//1", 3, "a", api.OK, "a/gone//1=99 a/nut//1=3 b/nut//1=2"},
		{"the most of the greatest", "nut=1000000,1000000", "a=1000000000000,1000000000000 b=0,0", "b/nut//1=5000000", "b/nut//1", 1000000, "a", api.OK, "a/nut//1=1000000 b/nut//1=4000000"},
		{"more than the most of the greatest", "nut=1000000,1000000", "a=1000000000000,1000000000000 b=0,0", "b/nut//1=5000000", "b/nut//1", 1000001, "a", api.ErrBinFull, ""},
		{"a volume that wraps around to 0", "nut=4611686018427387904,0", "a=0,0 b=0,0", "b/nut//1=5", "b/nut//1", 4, "a", api.OK, "a/nut//1=4 b/nut//1=1"},
		{"a volume that does not wrap around", "nut=4611686018427387904,0", "a=0,0 b=0,0", "b/nut//1=5", "b/nut//1", 1, "a", api.ErrBinFull, ""},
		{"an item that is not there", "bolt=1,1", "a=99,99 b=99,99", "b/nut//1=5", "b/nut//1", 3, "a", api.ErrNone, ""},
		{"an item that is not there, and no room", "bolt=1,1", "a=0,0 b=0,0", "b/nut//1=5", "b/nut//1", 3, "a", api.ErrNone, ""},
		{"no items", "", "a=99,99 b=99,99", "b/nut//1=5", "b/nut//1", 5, "a", api.ErrNone, ""},
		{"no item", "nut=3,1", "a=99,99 b=99,99", "b///1=5", "b///1", 3, "a", api.ErrNone, ""},
		{"no item that is there stands there either", "bolt=1,1", "a=99,99 b=99,99", "a/nut//1=1 b/nut//1=5", "b/nut//1", 3, "a", api.ErrNone, ""},
	})
}

// TestMoveWrong: P12.5, each error by itself.
func TestMoveWrong(t *testing.T) {
	moves(t, []move{
		{"the bin of the key", "nut=3,1", "a=99,99 b=99,99", "b/nut//1=5", "b/nut//1", 3, "b", api.ErrArg, ""},
		{"the bin of the key, which is not there", "nut=3,1", "a=99,99", "b/nut//1=5", "b/nut//1", 3, "b", api.ErrArg, ""},
		{"the bin of the key, nothing there", "", "", "", "b/nut//1", 0, "b", api.ErrArg, ""},
		{"no bin, from none", "nut=3,1", "a=99,99", "/nut//1=5", "/nut//1", 3, "", api.ErrArg, ""},
		{"a bin that is not there", "nut=3,1", "a=99,99 b=99,99", "b/nut//1=5", "b/nut//1", 3, "c", api.ErrNone, ""},
		{"a bin that is not there, though it is stood in", "nut=3,1", "a=99,99 b=99,99", "b/nut//1=5 c/nut//1=1", "b/nut//1", 3, "c", api.ErrNone, ""},
		{"no bin", "nut=3,1", "a=99,99 b=99,99", "b/nut//1=5", "b/nut//1", 3, "", api.ErrNone, ""},
		{"other letters of the bin of the key", "nut=3,1", "a=99,99 b=99,99", "b/nut//1=5", "b/nut//1", 3, "B", api.ErrNone, ""},
		{"no bins", "nut=3,1", "", "b/nut//1=5", "b/nut//1", 3, "a", api.ErrNone, ""},
		{"nothing at all", "", "", "", "///0", 0, "a", api.ErrNone, ""},
		{"a frozen bin of the key", "nut=3,1", "a=99,99 b=99,99!", "b/nut//1=5", "b/nut//1", 3, "a", api.ErrFrozen, ""},
		{"a frozen bin", "nut=3,1", "a=99,99! b=99,99", "b/nut//1=5", "b/nut//1", 3, "a", api.ErrFrozen, ""},
		{"a frozen bin, none of the key", "nut=3,1", "a=99,99!", "b/nut//1=5", "b/nut//1", 3, "a", api.ErrFrozen, ""},
		{"two frozen bins", "nut=3,1", "a=99,99! b=99,99!", "b/nut//1=5", "b/nut//1", 3, "a", api.ErrFrozen, ""},
		{"other frozen bins", "nut=3,1", "a=99,99 aa=99,99! b=99,99 c=99,99! =9,9!", "b/nut//1=5", "b/nut//1", 3, "a", api.OK, "a/nut//1=3 b/nut//1=2"},
		{"nothing there", "nut=3,1", "a=99,99 b=99,99", "", "b/nut//1", 3, "a", api.ErrNone, ""},
		{"nothing there, but in the other bin", "nut=3,1", "a=99,99 b=99,99", "a/nut//1=5", "b/nut//1", 3, "a", api.ErrNone, ""},
		{"another item", "bolt=1,1 nut=3,1", "a=99,99 b=99,99", "b/bolt/7/1=5", "b/nut/7/1", 3, "a", api.ErrNone, ""},
		{"another lot", "nut=3,1", "a=99,99 b=99,99", "b/nut/6/1=5", "b/nut/7/1", 3, "a", api.ErrNone, ""},
		{"another status", "nut=3,1", "a=99,99 b=99,99", "b/nut/7/2=5", "b/nut/7/1", 3, "a", api.ErrNone, ""},
		{"one too many", "nut=3,1", "a=99,99 b=99,99", "b/nut//1=5", "b/nut//1", 6, "a", api.ErrShort, ""},
		{"one too many, though the other bin has more", "nut=3,1", "a=99,99 b=99,99", "a/nut//1=9 b/nut//1=5", "b/nut//1", 6, "a", api.ErrShort, ""},
		{"one more than is free", "nut=3,1", "a=99,99 b=99,99", "b/nut//1=5:2", "b/nut//1", 4, "a", api.ErrHeld, ""},
		{"held beyond the quantity", "nut=3,1", "a=99,99 b=99,99", "b/nut//1=5:9", "b/nut//1", 1, "a", api.ErrHeld, ""},
		{"a negative quantity there", "nut=3,1", "a=99,99 b=99,99", "b/nut//1=-5", "b/nut//1", 1, "a", api.ErrShort, ""},
	})
}

// restate is what a case of Status does, and what comes of it: then is the quants behind it, in words.
type restate struct {
	why, bins, quants, key string
	qty, status            int
	want                   api.Errno
	then                   string
}

// TestStatus: P12.6, each error and its edges, and what goes and comes; only the status of the key changes, and no item is asked for, nor room.
func TestStatus(t *testing.T) {
	for _, c := range []restate{
		{"some", "b=99,99", "b/nut//1=5", "b/nut//1", 3, api.Broken, api.OK, "b/nut//1=2 b/nut//3=3"},
		{"some, to a status ahead", "b=99,99", "b/nut//3=5", "b/nut//3", 3, api.Free, api.OK, "b/nut//1=3 b/nut//3=2"},
		{"all", "b=99,99", "b/nut//1=5", "b/nut//1", 5, api.Hold, api.OK, "b/nut//2=5"},
		{"all that is free; what is held stays", "b=99,99", "b/nut//1=5:2", "b/nut//1", 3, api.Hold, api.OK, "b/nut//1=2:2 b/nut//2=3"},
		{"to more of it", "b=99,99", "b/nut//1=5 b/nut//2=4:1", "b/nut//1", 3, api.Hold, api.OK, "b/nut//1=2 b/nut//2=7:1"},
		{"all, to more of it", "b=99,99", "a/nut//2=1 b/nut//1=5 b/nut//2=4:1 b/nut//3=6", "b/nut//1", 5, api.Hold, api.OK, "a/nut//2=1 b/nut//2=9:1 b/nut//3=6"},
		{"in a lot", "b=99,99", "b/nut//1=1 b/nut/7/1=5 b/nut/8/2=4", "b/nut/7/1", 3, api.Hold, api.OK, "b/nut//1=1 b/nut/7/1=2 b/nut/7/2=3 b/nut/8/2=4"},
		{"beside other bins and items", "b=99,99", "a/nut//2=1 b/bolt//2=4 b/nut//1=5 c/nut//2=6", "b/nut//1", 3, api.Hold, api.OK, "a/nut//2=1 b/bolt//2=4 b/nut//1=2 b/nut//2=3 c/nut//2=6"},
		{"in an overfull bin", "b=0,0", "b/nut//1=5", "b/nut//1", 3, api.Hold, api.OK, "b/nut//1=2 b/nut//2=3"},
		{"in a bin that is not there", "", "b/nut//1=5", "b/nut//1", 3, api.Hold, api.OK, "b/nut//1=2 b/nut//2=3"},
		{"in a bin that is not there, beside frozen ones", "a=9,9! c=9,9! =9,9!", "b/nut//1=5", "b/nut//1", 3, api.Hold, api.OK, "b/nut//1=2 b/nut//2=3"},
		{"an item that is not there", "b=99,99", "b/gone//1=5", "b/gone//1", 3, api.Hold, api.OK, "b/gone//1=2 b/gone//2=3"},
		{"no texts and no status", "b=99,99", "///0=5", "///0", 3, api.Free, api.OK, "///0=2 ///1=3"},
		{"from a status that is none", "b=99,99", "b/nut//4=5", "b/nut//4", 3, api.Broken, api.OK, "b/nut//3=3 b/nut//4=2"},

		// The greatest quantity, and quantities that commands do not make.
		{"up to the greatest", "b=0,0", "b/nut//1=5 b/nut//2=999999997", "b/nut//1", 3, api.Hold, api.OK, "b/nut//1=2 b/nut//2=1000000000"},
		{"beyond the greatest", "b=0,0", "b/nut//1=5 b/nut//2=999999998", "b/nut//1", 3, api.Hold, api.ErrQty, ""},
		{"all, beyond the greatest", "b=0,0", "b/nut//1=5 b/nut//2=999999996", "b/nut//1", 5, api.Hold, api.ErrQty, ""},
		{"to less than none, and then none", "b=0,0", "b/nut//1=5 b/nut//2=-3:1", "b/nut//1", 3, api.Hold, api.OK, "b/nut//1=2"},
		{"all, to less than none, and then none", "b=0,0", "b/nut//1=5 b/nut//2=-5", "b/nut//1", 5, api.Hold, api.OK, ""},
		{"to the least number there is", "b=0,0", "b/nut//1=5 b/nut//2=-9223372036854775808", "b/nut//1", 3, api.Hold, api.OK, "b/nut//1=2 b/nut//2=-9223372036854775805"},
		{"what is free wraps around", "b=0,0", "b/nut//1=9223372036854775807:-1", "b/nut//1", 3, api.Hold, api.ErrHeld, ""},

		// Lists in no order, or with a key or a code twice.
		{"in no order", "b=0,0", "c/nut//1=1 b/nut//3=2 b/nut//1=5", "b/nut//1", 3, api.Hold, api.OK, "b/nut//2=3 c/nut//1=1 b/nut//3=2 b/nut//1=2"},
		{"the key twice: from the first", "b=0,0", "b/nut//1=5 b/nut//1=9", "b/nut//1", 5, api.Hold, api.OK, "b/nut//1=9 b/nut//2=5"},
		{"the key twice: the first has too few", "b=0,0", "b/nut//1=5 b/nut//1=9", "b/nut//1", 6, api.Hold, api.ErrShort, ""},
		{"the other key twice: to the first", "b=0,0", "b/nut//1=5 b/nut//2=1 b/nut//2=9", "b/nut//1", 3, api.Hold, api.OK, "b/nut//1=2 b/nut//2=4 b/nut//2=9"},
		{"the second bin is frozen", "b=0,0 b=0,0!", "b/nut//1=5", "b/nut//1", 3, api.Hold, api.OK, "b/nut//1=2 b/nut//2=3"},
		{"the first bin is frozen", "b=0,0! b=0,0", "b/nut//1=5", "b/nut//1", 3, api.Hold, api.ErrFrozen, ""},

		// Each error by itself.
		{"a status of 0", "b=99,99", "b/nut//1=5", "b/nut//1", 3, 0, api.ErrStatus, ""},
		{"a status of 4", "b=99,99", "b/nut//1=5", "b/nut//1", 3, 4, api.ErrStatus, ""},
		{"a negative status", "b=99,99", "b/nut//1=5", "b/nut//1", 3, -1, api.ErrStatus, ""},
		{"a status that is greater by 2^32", "b=99,99", "b/nut//1=5", "b/nut//1", 3, 1<<32 + 2, api.ErrStatus, ""},
		{"the status of the key, which is none", "b=99,99", "b/nut//4=5", "b/nut//4", 3, 4, api.ErrStatus, ""},
		{"a frozen bin", "b=99,99!", "b/nut//1=5", "b/nut//1", 3, api.Hold, api.ErrFrozen, ""},
		{"nothing there", "b=99,99", "", "b/nut//1", 3, api.Hold, api.ErrNone, ""},
		{"nothing there, but in that status", "b=99,99", "b/nut//2=5", "b/nut//1", 3, api.Hold, api.ErrNone, ""},
		{"another bin", "b=99,99", "a/nut/7/1=5", "b/nut/7/1", 3, api.Hold, api.ErrNone, ""},
		{"another item", "b=99,99", "b/bolt/7/1=5", "b/nut/7/1", 3, api.Hold, api.ErrNone, ""},
		{"another lot", "b=99,99", "b/nut/6/1=5", "b/nut/7/1", 3, api.Hold, api.ErrNone, ""},
		{"empty texts", "b=99,99", "b/nut/7/1=5", "///1", 3, api.Hold, api.ErrNone, ""},
		{"one too many", "b=99,99", "b/nut//1=5", "b/nut//1", 6, api.Hold, api.ErrShort, ""},
		{"one more than is free", "b=99,99", "b/nut//1=5:2", "b/nut//1", 4, api.Hold, api.ErrHeld, ""},
		{"held beyond the quantity", "b=99,99", "b/nut//1=5:9", "b/nut//1", 1, api.Hold, api.ErrHeld, ""},
		{"a negative quantity there", "b=99,99", "b/nut//1=-5", "b/nut//1", 1, api.Hold, api.ErrShort, ""},
	} {
		h := laid("bolt=1,1 nut=3,1", c.bins, c.quants)
		g, e := Status(h, keyOf(c.key), c.qty, c.status)
		what := c.why + ": Status of " + strconv.Itoa(c.qty) + " of " + c.key + " to " + strconv.Itoa(c.status)
		outcome(t, what, g, e, laid("bolt=1,1 nut=3,1", c.bins, c.then), c.want)
		same(t, what+": the house that was passed", h, laid("bolt=1,1 nut=3,1", c.bins, c.quants))
	}
}

// TestEachStatus: P12.6, from each status to each, those that are none among them.
func TestEachStatus(t *testing.T) {
	for from := -1; from <= 5; from++ {
		for to := -1; to <= 5; to++ {
			k := api.Key{Bin: "b", Item: "nut", Status: from}
			h := restocked(stocked(""), api.Quant{Key: k, Qty: 5, Held: 2})
			then := []api.Quant{{Key: k, Qty: 2, Held: 2}, {Key: api.Key{Bin: "b", Item: "nut", Status: to}, Qty: 3}}
			if to < from {
				slices.Reverse(then)
			}
			want := api.OK
			if to < 1 || to > 3 || to == from {
				want = api.ErrStatus
			}
			g, e := Status(h, k, 3, to)
			outcome(t, "Status from "+strconv.Itoa(from)+" to "+strconv.Itoa(to), g, e, restocked(h, then...), want)
		}
	}
}

// beside is some quants and, behind them, as many of a crowd as make n.
func beside(n int, quants string) []api.Quant {
	l := quantsOf(quants)
	return append(l, crowd(n-len(l))...)
}

// TestMoveCrowd: P12.5 and P12.6, a house with as many quants as it may have, one fewer, and more; what goes whole gives its place to what comes.
func TestMoveCrowd(t *testing.T) {
	for _, c := range []struct {
		why                    string
		qty                    int
		moved, movedThen       string
		restated, restatedThen string
		grows                  int // the quants that come, less those that go
		at256, beyond          api.Errno
	}{
		{"some to none", 3, "b/nut//1=5", "b/nut//1=2 c/nut//1=3", "b/nut//1=5", "b/nut//1=2 b/nut//2=3", 1, api.ErrQuants, api.ErrQuants},
		{"all to none", 5, "b/nut//1=5", "c/nut//1=5", "b/nut//1=5", "b/nut//2=5", 0, api.OK, api.ErrQuants},
		{"some to more", 3, "b/nut//1=5 c/nut//1=1", "b/nut//1=2 c/nut//1=4", "b/nut//1=5 b/nut//2=1", "b/nut//1=2 b/nut//2=4", 0, api.OK, api.OK},
		{"all to more", 5, "b/nut//1=5 c/nut//1=1", "c/nut//1=6", "b/nut//1=5 b/nut//2=1", "b/nut//2=6", -1, api.OK, api.OK},
	} {
		for n, want := range map[int]api.Errno{254: api.OK, 255: api.OK, 256: c.at256, 257: c.beyond, 258: c.beyond, 300: c.beyond} {
			what := c.why + " among " + strconv.Itoa(n) + " quants"
			h, then := laid("nut=3,1", "b=0,0 c=99,99", ""), n+c.grows
			g, e := Move(restocked(h, beside(n, c.moved)...), keyOf("b/nut//1"), c.qty, "c")
			outcome(t, "Move of "+what, g, e, restocked(h, beside(then, c.movedThen)...), want)
			g, e = Status(restocked(h, beside(n, c.restated)...), keyOf("b/nut//1"), c.qty, api.Hold)
			outcome(t, "Status of "+what, g, e, restocked(h, beside(then, c.restatedThen)...), want)
		}
	}
}
