package room

import (
	"cmp"
	"math"
	"math/big"
	"math/rand"
	"slices"
	"strconv"
	"strings"
	"testing"

	"stevedore/api"
)

// change is what a case of Resize or Limit does, and what comes of it: then is the list that changed, in words.
type change struct {
	why, items, bins, quants, code string
	volume, weight                 int
	want                           api.Errno
	then                           string
}

// changes makes every change of some cases by a call, and lays the list that it changed into the house that must come of it.
func changes(t *testing.T, cases []change, call func(api.House, string, int, int) (api.House, api.Errno), into func(h *api.House, then string)) {
	t.Helper()
	for _, c := range cases {
		h := laid(c.items, c.bins, c.quants)
		g, e := call(h, c.code, c.volume, c.weight)
		what := c.why + ": " + strconv.Quote(c.code) + " to " + strconv.Itoa(c.volume) + ", " + strconv.Itoa(c.weight)
		if c.want != api.OK {
			refused(t, what, g, e, c.want)
		} else {
			errno(t, what, e, api.OK)
			want := laid(c.items, c.bins, c.quants)
			into(&want, c.then)
			same(t, what, g, want)
		}
		same(t, what+": the house that was passed", h, laid(c.items, c.bins, c.quants))
	}
}

// TestResize: P11.4, each error, the edges of each capacity, alone and both, and what is changed: the first item of the code.
func TestResize(t *testing.T) {
	changes(t, []change{
		{"just the volume", "nut=3,1", "b=10,99", "b/nut//1=2", "nut", 5, 1, api.OK, "nut=5,1"},
		{"a volume of one too many", "nut=3,1", "b=9,99", "b/nut//1=2", "nut", 5, 1, api.ErrBinFull, ""},
		{"just the weight", "nut=3,1", "b=99,10", "b/nut//1=2", "nut", 3, 5, api.OK, "nut=3,5"},
		{"a weight of one too many", "nut=3,1", "b=99,9", "b/nut//1=2", "nut", 3, 5, api.ErrBinFull, ""},
		{"just both", "nut=3,1", "b=10,12", "b/nut//1=2", "nut", 5, 6, api.OK, "nut=5,6"},
		{"just the weight, the volume one too many", "nut=3,1", "b=9,12", "b/nut//1=2", "nut", 5, 6, api.ErrBinFull, ""},
		{"just the volume, the weight one too many", "nut=3,1", "b=10,11", "b/nut//1=2", "nut", 5, 6, api.ErrBinFull, ""},
		{"both one too many", "nut=3,1", "b=9,11", "b/nut//1=2", "nut", 5, 6, api.ErrBinFull, ""},
		{"the measures that it has", "nut=3,1", "b=6,2", "b/nut//1=2", "nut", 3, 1, api.OK, "nut=3,1"},
		{"less", "nut=3,1", "b=6,2", "b/nut//1=2", "nut", 2, 0, api.OK, "nut=2,0"},
		{"nothing", "nut=3,1", "b=6,2", "b/nut//1=2", "nut", 0, 0, api.OK, "nut=0,0"},
		{"nothing where nothing goes in", "nut=3,1", "b=0,0", "b/nut//1=2", "nut", 0, 0, api.OK, "nut=0,0"},
		{"a volume where none goes in", "nut=0,0", "b=0,0", "b/nut//1=1", "nut", 1, 0, api.ErrBinFull, ""},
		{"a weight where none goes in", "nut=0,0", "b=0,0", "b/nut//1=1", "nut", 0, 1, api.ErrBinFull, ""},
		{"beside another item, just both", "bolt=5,7 nut=3,1", "b=15,17", "b/bolt//1=1 b/nut//1=2", "nut", 5, 5, api.OK, "bolt=5,7 nut=5,5"},
		{"beside another item, one too many", "bolt=5,7 nut=3,1", "b=14,17", "b/bolt//1=1 b/nut//1=2", "nut", 5, 5, api.ErrBinFull, ""},
		{"lots and statuses, just both", "nut=3,1", "b=35,14", "b/nut/1/1=1 b/nut/1/2=2 b/nut/2/3=4", "nut", 5, 2, api.OK, "nut=5,2"},
		{"lots and statuses, one too many", "nut=3,1", "b=34,14", "b/nut/1/1=1 b/nut/1/2=2 b/nut/2/3=4", "nut", 5, 2, api.ErrBinFull, ""},

		// Each bin that contains the item, and no other.
		{"no bin contains it", "bolt=1,1 nut=3,1", "a=9,9 b=0,0", "a/bolt//1=1", "nut", 1000000, 1000000, api.OK, "bolt=1,1 nut=1000000,1000000"},
		{"no bins", "nut=3,1", "", "", "nut", 7, 8, api.OK, "nut=7,8"},
		{"a bin that is not there contains it", "nut=3,1", "b=0,0", "x/nut//1=9", "nut", 7, 8, api.OK, "nut=7,8"},
		{"several bins, all just full", "nut=3,1", "a=5,9 b=10,9 c=15,9", "a/nut//1=1 b/nut//1=2 c/nut//1=3", "nut", 5, 1, api.OK, "nut=5,1"},
		{"several bins, the first overfull", "nut=3,1", "a=4,9 b=10,9 c=15,9", "a/nut//1=1 b/nut//1=2 c/nut//1=3", "nut", 5, 1, api.ErrBinFull, ""},
		{"several bins, the middle overfull", "nut=3,1", "a=5,9 b=9,9 c=15,9", "a/nut//1=1 b/nut//1=2 c/nut//1=3", "nut", 5, 1, api.ErrBinFull, ""},
		{"several bins, the last overfull", "nut=3,1", "a=5,9 b=10,9 c=14,9", "a/nut//1=1 b/nut//1=2 c/nut//1=3", "nut", 5, 1, api.ErrBinFull, ""},
		{"several bins, the last overfull, in no order", "nut=3,1", "c=15,9 b=10,9 a=4,9", "c/nut//1=3 a/nut//1=1 b/nut//1=2", "nut", 5, 1, api.ErrBinFull, ""},
		{"a bin without the item is overfull already", "bolt=5,7 nut=3,1", "a=0,0 b=10,2", "a/bolt//1=9 b/nut//1=2", "nut", 5, 1, api.OK, "bolt=5,7 nut=5,1"},
		{"a bin with the item is overfull already", "nut=3,1", "b=1,9", "b/nut//1=2", "nut", 3, 1, api.ErrBinFull, ""},
		{"a bin with the item is overfull already, and would be so less", "nut=3,1", "b=1,9", "b/nut//1=2", "nut", 1, 1, api.ErrBinFull, ""},
		{"a bin with the item is overfull no more", "nut=3,1", "b=2,2", "b/nut//1=2", "nut", 1, 1, api.OK, "nut=1,1"},
		{"a bin with the item is overfull by another", "bolt=5,7 nut=3,1", "b=4,99", "b/bolt//1=1 b/nut//1=2", "nut", 0, 0, api.ErrBinFull, ""},
		{"a bin with the item is overfull by its weight already", "nut=3,1", "b=99,1", "b/nut//1=2", "nut", 0, 1, api.ErrBinFull, ""},

		// A quant of 0 is one that the bin contains.
		{"a quantity of 0", "nut=3,1", "b=0,0", "b/nut//1=0", "nut", 1000000, 1000000, api.OK, "nut=1000000,1000000"},
		{"a quantity of 0 in an overfull bin", "bolt=5,7 nut=3,1", "b=4,9", "b/bolt//1=1 b/nut//1=0", "nut", 0, 0, api.ErrBinFull, ""},
		{"a negative quantity", "nut=3,1", "b=0,0", "b/nut//1=-2", "nut", 5, 5, api.OK, "nut=5,5"},
		{"a negative quantity that makes room", "bolt=5,7 nut=3,1", "b=0,0", "b/bolt//1=2 b/nut//1=-2", "nut", 5, 7, api.OK, "bolt=5,7 nut=5,7"},
		{"a negative quantity that makes room no more", "bolt=5,7 nut=5,7", "b=0,0", "b/bolt//1=2 b/nut//1=-2", "nut", 4, 7, api.ErrBinFull, ""},
		{"an item that is not there beside it", "nut=3,1", "b=10,2", "b/gone//1=99 b/nut//1=2", "nut", 5, 1, api.OK, "nut=5,1"},

		// Several of a code.
		{"the first item, which says", "nut=3,1 nut=9,9", "b=10,2", "b/nut//1=2", "nut", 5, 1, api.OK, "nut=5,1 nut=9,9"},
		{"the first item, in no order", "nut=3,1 bolt=5,7 nut=9,9", "b=10,2", "b/nut//1=2", "nut", 5, 1, api.OK, "nut=5,1 bolt=5,7 nut=9,9"},
		{"the first item, whose measures are too great", "nut=3,1 nut=1,1", "b=10,2", "b/nut//1=2", "nut", 6, 1, api.ErrBinFull, ""},
		{"items in no order", "nut=3,1 bolt=5,7 air=0,0", "b=99,99", "b/nut//1=2", "air", 4, 5, api.OK, "nut=3,1 bolt=5,7 air=4,5"},
		{"the first item beside another", "bolt=5,7 nut=3,1 bolt=9,9", "b=10,9", "b/bolt//1=1 b/nut//1=1", "nut", 5, 2, api.OK, "bolt=5,7 nut=5,2 bolt=9,9"},
		{"a bin twice, the second just full", "nut=3,1", "b=99,99 b=10,2", "b/nut//1=2", "nut", 5, 1, api.OK, "nut=5,1"},
		{"a bin twice, the second overfull", "nut=3,1", "b=99,99 b=9,2", "b/nut//1=2", "nut", 5, 1, api.ErrBinFull, ""},
		{"a bin twice, the first overfull", "nut=3,1", "b=9,2 b=99,99", "b/nut//1=2", "nut", 5, 1, api.ErrBinFull, ""},
		{"a quant twice", "nut=3,1", "b=10,4", "b/nut//1=1 b/nut//1=1", "nut", 5, 2, api.OK, "nut=5,2"},
		{"a quant twice, one too many", "nut=3,1", "b=9,4", "b/nut//1=1 b/nut//1=1", "nut", 5, 2, api.ErrBinFull, ""},

		// Sums and products that wrap around.
		{"a product of 2^63", "nut=3,1", "b=0,0", "b/nut//1=4611686018427387904", "nut", 2, 0, api.OK, "nut=2,0"},
		{"a product of 2^64 and 4, just full", "nut=3,1", "b=4,0", "b/nut//1=4611686018427387905", "nut", 4, 0, api.OK, "nut=4,0"},
		{"a product of 2^64 and 4, one too many", "nut=3,1", "b=3,0", "b/nut//1=4611686018427387905", "nut", 4, 0, api.ErrBinFull, ""},
		{"a sum of 2^63", "bolt=1,0 nut=3,1", "b=9,0", "b/bolt//1=9223372036854775807 b/nut//1=1", "nut", 1, 0, api.OK, "bolt=1,0 nut=1,0"},
		{"a sum of 2^63 - 1", "bolt=1,0 nut=3,1", "b=9,0", "b/bolt//1=9223372036854775806 b/nut//1=1", "nut", 1, 0, api.ErrBinFull, ""},

		// Wrong inputs, and of several errors the first.
		{"no such item", "nut=3,1", "b=9,9", "", "gone", 1, 1, api.ErrNone, ""},
		{"no such item, though a quant of it is there", "nut=3,1", "b=9,9", "b/gone//1=1", "gone", 1, 1, api.ErrNone, ""},
		{"no item", "nut=3,1", "b=9,9", "", "", 1, 1, api.ErrNone, ""},
		{"no items", "", "b=9,9", "b/nut//1=2", "nut", 1, 1, api.ErrNone, ""},
		{"a bin's code", "nut=3,1", "b=9,9", "", "b", 1, 1, api.ErrNone, ""},
		{"other letters", "nut=3,1", "b=9,9", "", "Nut", 1, 1, api.ErrNone, ""},
		{"the begin of a code", "nut=3,1", "b=9,9", "", "nu", 1, 1, api.ErrNone, ""},
		{"no such item, a wrong volume", "nut=3,1", "b=9,9", "", "gone", -1, 1, api.ErrNone, ""},
		{"no such item, a wrong weight", "nut=3,1", "b=9,9", "", "gone", 1, 1000001, api.ErrNone, ""},
		{"no such item, and overfull", "nut=3,1", "b=0,0", "b/nut//1=2 b/gone//1=9", "gone", 1, 1, api.ErrNone, ""},
		{"all three", "nut=3,1", "b=0,0", "b/nut//1=2 b/gone//1=9", "gone", -1, -1, api.ErrNone, ""},
		{"a wrong volume, and overfull", "nut=3,1", "b=0,0", "b/nut//1=2", "nut", 1000001, 1, api.ErrNum, ""},
		{"a wrong weight, and overfull", "nut=3,1", "b=0,0", "b/nut//1=2", "nut", 1, -1, api.ErrNum, ""},
		{"an item without a code that is there", "=3,1", "b=9,9", "b///1=2", "", 4, 4, api.OK, "=4,4"},
	}, Resize, func(h *api.House, then string) { h.Items = itemsOf(then) })
}

// TestLimit: P11.5, each error, the edges of each capacity, alone and both, and what is changed: the first bin of the code.
func TestLimit(t *testing.T) {
	changes(t, []change{
		{"just both", "nut=3,1", "b=10,10", "b/nut//1=2", "b", 6, 2, api.OK, "b=6,2"},
		{"the volume one too many", "nut=3,1", "b=10,10", "b/nut//1=2", "b", 5, 2, api.ErrBinFull, ""},
		{"the weight one too many", "nut=3,1", "b=10,10", "b/nut//1=2", "b", 6, 1, api.ErrBinFull, ""},
		{"both one too many", "nut=3,1", "b=10,10", "b/nut//1=2", "b", 5, 1, api.ErrBinFull, ""},
		{"just the volume, much weight", "nut=3,1", "b=10,10", "b/nut//1=2", "b", 6, 99, api.OK, "b=6,99"},
		{"just the weight, much volume", "nut=3,1", "b=10,10", "b/nut//1=2", "b", 99, 2, api.OK, "b=99,2"},
		{"the volume one too many, much weight", "nut=3,1", "b=10,10", "b/nut//1=2", "b", 5, 99, api.ErrBinFull, ""},
		{"the weight one too many, much volume", "nut=3,1", "b=10,10", "b/nut//1=2", "b", 99, 1, api.ErrBinFull, ""},
		{"more", "nut=3,1", "b=10,10", "b/nut//1=2", "b", 11, 12, api.OK, "b=11,12"},
		{"the capacity that it has", "nut=3,1", "b=6,2", "b/nut//1=2", "b", 6, 2, api.OK, "b=6,2"},
		{"none for a bin without quants", "nut=3,1", "a=9,9 b=10,10", "a/nut//1=2", "b", 0, 0, api.OK, "a=9,9 b=0,0"},
		{"none for a bin of what takes no room", "nut=0,0", "b=10,10", "b/nut//1=2", "b", 0, 0, api.OK, "b=0,0"},
		{"none for volume", "nut=0,1", "b=10,10", "b/nut//1=2", "b", 0, 2, api.OK, "b=0,2"},
		{"none for weight", "nut=3,0", "b=10,10", "b/nut//1=2", "b", 6, 0, api.OK, "b=6,0"},
		{"none for one piece", "nut=1,1", "b=10,10", "b/nut//1=1", "b", 0, 0, api.ErrBinFull, ""},
		{"several items, just both", "bolt=5,7 nut=3,1", "b=99,99", "b/bolt//1=1 b/nut//1=2", "b", 11, 9, api.OK, "b=11,9"},
		{"several items, one too many", "bolt=5,7 nut=3,1", "b=99,99", "b/bolt//1=1 b/nut//1=2", "b", 11, 8, api.ErrBinFull, ""},
		{"lots and statuses, just both", "nut=3,1", "b=99,99", "b/nut/1/1=1 b/nut/1/2=2 b/nut/2/3=4", "b", 21, 7, api.OK, "b=21,7"},
		{"lots and statuses, one too many", "nut=3,1", "b=99,99", "b/nut/1/1=1 b/nut/1/2=2 b/nut/2/3=4", "b", 20, 7, api.ErrBinFull, ""},

		// Only the bin that is asked for.
		{"another bin is overfull", "nut=3,1", "a=0,0 b=10,10 c=0,0", "a/nut//1=9 b/nut//1=2 c/nut//1=9", "b", 6, 2, api.OK, "a=0,0 b=6,2 c=0,0"},
		{"it is overfull already", "nut=3,1", "b=1,1", "b/nut//1=2", "b", 1, 1, api.ErrBinFull, ""},
		{"it is overfull already, and would be so less", "nut=3,1", "b=1,1", "b/nut//1=2", "b", 5, 2, api.ErrBinFull, ""},
		{"it is overfull already, and would be so less by weight", "nut=3,1", "b=1,0", "b/nut//1=2", "b", 6, 1, api.ErrBinFull, ""},
		{"it is overfull already, and would be so more", "nut=3,1", "b=1,1", "b/nut//1=2", "b", 0, 0, api.ErrBinFull, ""},
		{"it is overfull no more", "nut=3,1", "b=1,1", "b/nut//1=2", "b", 6, 2, api.OK, "b=6,2"},
		{"an item that is not there", "nut=3,1", "b=10,10", "b/gone//1=99", "b", 0, 0, api.OK, "b=0,0"},
		{"an item that is not there beside another", "nut=3,1", "b=10,10", "b/gone//1=99 b/nut//1=2", "b", 6, 2, api.OK, "b=6,2"},
		{"a quantity of 0", "nut=3,1", "b=10,10", "b/nut//1=0", "b", 0, 0, api.OK, "b=0,0"},
		{"a negative quantity", "nut=3,1", "b=10,10", "b/nut//1=-2", "b", 0, 0, api.OK, "b=0,0"},
		{"a negative quantity that makes room", "nut=3,1", "b=10,10", "b/nut/1/1=3 b/nut/2/1=-2", "b", 3, 1, api.OK, "b=3,1"},
		{"a negative quantity that makes too little room", "nut=3,1", "b=10,10", "b/nut/1/1=3 b/nut/2/1=-2", "b", 2, 1, api.ErrBinFull, ""},

		// Several of a code.
		{"the first bin", "nut=3,1", "b=10,10 b=11,11", "b/nut//1=2", "b", 6, 2, api.OK, "b=6,2 b=11,11"},
		{"the first bin, though the second is overfull", "nut=3,1", "b=10,10 b=0,0", "b/nut//1=2", "b", 6, 2, api.OK, "b=6,2 b=0,0"},
		{"the first bin, though the second is not overfull", "nut=3,1", "b=10,10 b=99,99", "b/nut//1=2", "b", 5, 2, api.ErrBinFull, ""},
		{"the first bin, in no order", "nut=3,1", "c=1,1 b=10,10 a=9,9 b=11,11", "b/nut//1=2", "b", 6, 2, api.OK, "c=1,1 b=6,2 a=9,9 b=11,11"},
		{"bins in no order", "nut=3,1", "c=1,1 b=10,10 a=9,9", "b/nut//1=2", "a", 6, 2, api.OK, "c=1,1 b=10,10 a=6,2"},
		{"the first item says", "nut=3,1 nut=9,9", "b=99,99", "b/nut//1=2", "b", 6, 2, api.OK, "b=6,2"},
		{"the first item says, which is more", "nut=9,9 nut=3,1", "b=99,99", "b/nut//1=2", "b", 17, 18, api.ErrBinFull, ""},
		{"a quant twice", "nut=3,1", "b=99,99", "b/nut//1=1 b/nut//1=1", "b", 5, 2, api.ErrBinFull, ""},

		// Sums and products that wrap around.
		{"a product of 2^63", "nut=2,0", "b=9,9", "b/nut//1=4611686018427387904", "b", 0, 0, api.OK, "b=0,0"},
		{"a product of 2^64 and 4, just full", "nut=4,0", "b=9,9", "b/nut//1=4611686018427387905", "b", 4, 0, api.OK, "b=4,0"},
		{"a product of 2^64 and 4, one too many", "nut=4,0", "b=9,9", "b/nut//1=4611686018427387905", "b", 3, 0, api.ErrBinFull, ""},
		{"a sum of 2^63", "bolt=1,0 nut=1,0", "b=9,9", "b/bolt//1=9223372036854775807 b/nut//1=1", "b", 0, 0, api.OK, "b=0,0"},
		{"a sum of 2^63 - 1", "bolt=1,0 nut=1,0", "b=9,9", "b/bolt//1=9223372036854775806 b/nut//1=1", "b", 1000000000000, 0, api.ErrBinFull, ""},

		// Wrong inputs, and of several errors the first.
		{"no such bin", "nut=3,1", "b=9,9", "", "x", 1, 1, api.ErrNone, ""},
		{"no such bin, though a quant is in it", "nut=3,1", "b=9,9", "x/nut//1=1", "x", 9, 9, api.ErrNone, ""},
		{"no bin", "nut=3,1", "b=9,9", "", "", 1, 1, api.ErrNone, ""},
		{"no bins", "nut=3,1", "", "b/nut//1=2", "b", 9, 9, api.ErrNone, ""},
		{"an item's code", "nut=3,1", "b=9,9", "", "nut", 1, 1, api.ErrNone, ""},
		{"other letters", "nut=3,1", "b=9,9", "", "B", 1, 1, api.ErrNone, ""},
		{"a code and more", "nut=3,1", "b=9,9", "", "bb", 1, 1, api.ErrNone, ""},
		{"no such bin, a wrong volume", "nut=3,1", "b=9,9", "", "x", -1, 1, api.ErrNone, ""},
		{"no such bin, a wrong weight", "nut=3,1", "b=9,9", "", "x", 1, 1000000000001, api.ErrNone, ""},
		{"no such bin, and overfull", "nut=3,1", "b=9,9", "x/nut//1=9", "x", 1, 1, api.ErrNone, ""},
		{"all three", "nut=3,1", "b=9,9", "x/nut//1=9", "x", -1, -1, api.ErrNone, ""},
		{"a wrong volume, and overfull", "nut=3,1", "b=9,9", "b/nut//1=2", "b", -1, 1, api.ErrNum, ""},
		{"a wrong weight, and overfull", "nut=3,1", "b=9,9", "b/nut//1=2", "b", 1, 1000000000001, api.ErrNum, ""},
		{"a bin without a code that is there", "nut=3,1", "=9,9", "/nut//1=2", "", 6, 2, api.OK, "=6,2"},
	}, Limit, func(h *api.House, then string) { h.Bins = binsOf(then) })
}

// numbers are numbers about the edges of 0 to high, and whether they are in that range.
func numbers(high int) map[int]api.Errno {
	return map[int]api.Errno{
		math.MinInt: api.ErrNum, -high: api.ErrNum, -1: api.ErrNum, 0: api.OK, 1: api.OK, high - 1: api.OK, high: api.OK,
		high + 1: api.ErrNum, high + 1<<32: api.ErrNum, 1 << 60: api.ErrNum, math.MaxInt: api.ErrNum,
	}
}

// TestRanges: P11.4 and P11.5, the edges of each number, each with those of the other.
func TestRanges(t *testing.T) {
	for volume, wrongVolume := range numbers(1000000) {
		for weight, wrongWeight := range numbers(1000000) {
			h, want := laid("bolt=5,7 nut=3,1", "b=9,9", "b/bolt//1=1"), laid("bolt=5,7 nut=3,1", "b=9,9", "b/bolt//1=1")
			want.Items[1].Volume, want.Items[1].Weight = volume, weight
			g, e := Resize(h, "nut", volume, weight)
			ranged(t, "Resize to "+strconv.Itoa(volume)+", "+strconv.Itoa(weight), g, e, cmp.Or(wrongVolume, wrongWeight), want)
		}
	}
	for volume, wrongVolume := range numbers(1000000000000) {
		for weight, wrongWeight := range numbers(1000000000000) {
			h, want := laid("nut=3,1", "a=9,9 b=9,9", "a/nut//1=1"), laid("nut=3,1", "a=9,9 b=9,9", "a/nut//1=1")
			want.Bins[1].Volume, want.Bins[1].Weight = volume, weight
			g, e := Limit(h, "b", volume, weight)
			ranged(t, "Limit to "+strconv.Itoa(volume)+", "+strconv.Itoa(weight), g, e, cmp.Or(wrongVolume, wrongWeight), want)
		}
	}
}

// ranged checks an error, and the house beside it.
func ranged(t *testing.T, what string, g api.House, e, wrong api.Errno, want api.House) {
	t.Helper()
	if wrong != api.OK {
		refused(t, what, g, e, wrong)
		return
	}
	errno(t, what, e, api.OK)
	same(t, what, g, want)
}

// TestGreatest: P11.4 and P11.5, the greatest measures and capacities against each other.
func TestGreatest(t *testing.T) {
	h := laid("nut=3,1", "b=1000000000000,1000000000000", "b/nut//1=1000000")
	g, e := Resize(h, "nut", 1000000, 1000000)
	errno(t, "Resize to the greatest", e, api.OK)
	fits(t, "just full", g, "b", "nut", 0, api.OK)
	fits(t, "just full", g, "b", "nut", 1, api.ErrBinFull)
	g, e = Limit(g, "b", 999999999999, 1000000000000)
	refused(t, "Limit to one less", g, e, api.ErrBinFull)
	h.Quants[0].Qty++
	g, e = Resize(h, "nut", 1000000, 999999)
	refused(t, "Resize to the greatest, of a million and one", g, e, api.ErrBinFull)
	g, e = Resize(h, "nut", 999999, 999999)
	errno(t, "Resize to less, of a million and one", e, api.OK)
	load(t, "less, of a million and one", g, "b", 1000000*1000000-1, 1000000*1000000-1)
}

// TestAnyHouse: P11.4 and P11.5, nothing else is asked: neither codes nor what else an item or a bin says need be valid, nor lists shorter than a limit.
func TestAnyHouse(t *testing.T) {
	h := zero
	for i := range 100 {
		h.Items = append(h.Items, api.Item{Code: "i " + strconv.Itoa(i), Volume: -9, Weight: 1 << 50, Serial: true})
		h.Bins = append(h.Bins, api.Bin{Code: "b " + strconv.Itoa(i), Zone: "gone", Kind: 77, Aisle: -1, Volume: -1, Weight: 1 << 60})
	}
	for i, x := range h.Items {
		want := h
		want.Items = slices.Clone(h.Items)
		want.Items[i].Volume, want.Items[i].Weight = 2, 3
		g, e := Resize(h, x.Code, 2, 3)
		errno(t, "Resize of "+x.Code, e, api.OK)
		same(t, "Resize of "+x.Code, g, want)
	}
	for i, x := range h.Bins {
		want := h
		want.Bins = slices.Clone(h.Bins)
		want.Bins[i].Volume, want.Bins[i].Weight = 2, 3
		g, e := Limit(h, x.Code, 2, 3)
		errno(t, "Limit of "+x.Code, e, api.OK)
		same(t, "Limit of "+x.Code, g, want)
	}
}

// roomy is l with unused capacity behind it, filled with a mark that no call may touch.
func roomy[T any](l []T, mark T) (short, whole []T) {
	whole = append(slices.Clone(l), mark, mark, mark)
	return whole[:len(l)], whole
}

// wipe writes over a list and its unused capacity, as the caller whom it belongs to may.
func wipe[T any](l []T) {
	var none T
	l = l[:cap(l)]
	for i := range l {
		l[i] = none
	}
}

// TestNothingElseChanges: R2, the house that is passed stays as it is, its lists and their unused capacity too; the list that changed is new memory.
func TestNothingElseChanges(t *testing.T) {
	for _, c := range []struct{ items, bins, quants string }{
		{"", "", ""},
		{"nut=3,1", "b=10,10", "b/nut//1=2"},
		{"bolt=5,7 nut=3,1", "a=0,0 b=10,10 c=99,99", "a/bolt//1=1 b/nut//1=2 c/bolt//1=1 c/nut//1=1"},
		{"nut=3,1 bolt=5,7 nut=9,9", "c=9,9 b=10,10 b=5,5 a=0,0", "b/nut//1=1 a/nut//1=-2 b/nut//1=1 b/gone//1=9"},
	} {
		items, allItems := roomy(itemsOf(c.items), itemsOf("nut=7,7")[0])
		bins, allBins := roomy(binsOf(c.bins), binsOf("b=7,7")[0])
		quants, allQuants := roomy(quantsOf(c.quants), quantsOf("b/nut//1=7")[0])
		keptItems, keptBins, keptQuants := slices.Clone(allItems), slices.Clone(allBins), slices.Clone(allQuants)
		h := houseOf(items, bins, quants)
		for _, code := range []string{"nut", "bolt", "gone", "a", "b", "c", "x", ""} {
			for _, n := range []int{-1, 0, 2, 4, 6, 100, 1000000, 1000000000000, 1000000000001} {
				g, _ := Resize(h, code, n, 1)
				wipe(g.Items)
				g, _ = Limit(h, code, n, n)
				wipe(g.Bins)
				wipe(Over(h))
				Load(h, code)
				Fits(h, code, "nut", n)
				Fits(h, "b", code, n)
				if !slices.Equal(allItems, keptItems) || !slices.Equal(allBins, keptBins) || !slices.Equal(allQuants, keptQuants) {
					t.Fatalf("%q and %d with %+v changed a list, or what is behind it", code, n, c)
				}
				same(t, "the house that was passed", h, laid(c.items, c.bins, c.quants))
			}
		}
	}
}

// wrapped is a number modulo 2^64.
func wrapped(n *big.Int) int {
	return int(int64(new(big.Int).And(n, new(big.Int).SetUint64(math.MaxUint64)).Uint64()))
}

// loadByWords is the load of a bin and so many of an item more, without wrapping around till the end.
func loadByWords(h api.House, bin string, more ...api.Quant) (int, int) {
	volume, weight := new(big.Int), new(big.Int)
	for _, q := range slices.Concat(h.Quants, more) {
		i := slices.IndexFunc(h.Items, func(x api.Item) bool { return x.Code == q.Item })
		if q.Bin == bin && i >= 0 {
			qty := big.NewInt(int64(q.Qty))
			volume.Add(volume, new(big.Int).Mul(qty, big.NewInt(int64(h.Items[i].Volume))))
			weight.Add(weight, new(big.Int).Mul(qty, big.NewInt(int64(h.Items[i].Weight))))
		}
	}
	return wrapped(volume), wrapped(weight)
}

// overByWords is P11.3: the places of the bins that are overfull.
func overByWords(h api.House) []int {
	var l []int
	for i, b := range h.Bins {
		if v, w := loadByWords(h, b.Code); v > b.Volume || w > b.Weight {
			l = append(l, i)
		}
	}
	return l
}

// fitsByWords is P11.2.
func fitsByWords(h api.House, bin, item string, qty int) api.Errno {
	b := slices.IndexFunc(h.Bins, func(b api.Bin) bool { return b.Code == bin })
	if b < 0 || !slices.ContainsFunc(h.Items, func(x api.Item) bool { return x.Code == item }) {
		return api.ErrNone
	}
	v, w := loadByWords(h, bin, api.Quant{Key: api.Key{Bin: bin, Item: item}, Qty: qty})
	if v > h.Bins[b].Volume || w > h.Bins[b].Weight {
		return api.ErrBinFull
	}
	return api.OK
}

// resizeByWords is P11.4.
func resizeByWords(h api.House, item string, volume, weight int) (api.House, api.Errno) {
	i := slices.IndexFunc(h.Items, func(x api.Item) bool { return x.Code == item })
	if i < 0 {
		return zero, api.ErrNone
	}
	if min(volume, weight) < 0 || max(volume, weight) > 1000000 {
		return zero, api.ErrNum
	}
	h.Items = slices.Clone(h.Items)
	h.Items[i].Volume, h.Items[i].Weight = volume, weight
	for _, b := range overByWords(h) {
		for _, q := range h.Quants {
			if q.Bin == h.Bins[b].Code && q.Item == item {
				return zero, api.ErrBinFull
			}
		}
	}
	return h, api.OK
}

// limitByWords is P11.5.
func limitByWords(h api.House, bin string, volume, weight int) (api.House, api.Errno) {
	i := slices.IndexFunc(h.Bins, func(b api.Bin) bool { return b.Code == bin })
	if i < 0 {
		return zero, api.ErrNone
	}
	if min(volume, weight) < 0 || max(volume, weight) > 1000000000000 {
		return zero, api.ErrNum
	}
	h.Bins = slices.Clone(h.Bins)
	h.Bins[i].Volume, h.Bins[i].Weight = volume, weight
	if slices.Contains(overByWords(h), i) {
		return zero, api.ErrBinFull
	}
	return h, api.OK
}

// oneOf is the usual in most cases, and at times one of the others.
func oneOf[T any](r *rand.Rand, usual T, others ...T) T {
	if r.Intn(12) > 0 {
		return usual
	}
	return others[r.Intn(len(others))]
}

// anyCode is one of a few codes, or at times one that nothing has.
func anyCode(r *rand.Rand, first string) string {
	return oneOf(r, first+strconv.Itoa(r.Intn(6)), "", "gone", first)
}

// anyHouse is a random house: its lists are sorted or not, some codes are there twice, some quants are of no bin or item, and some quantities are none.
func anyHouse(r *rand.Rand) api.House {
	h := houseOf(nil, nil, nil)
	for range 3 + r.Intn(6) {
		h.Items = append(h.Items, api.Item{Code: "i" + strconv.Itoa(r.Intn(6)), Volume: r.Intn(10), Weight: r.Intn(10), Lots: r.Intn(2) == 0})
	}
	for range 3 + r.Intn(6) {
		h.Bins = append(h.Bins, api.Bin{Code: "b" + strconv.Itoa(r.Intn(6)), Kind: api.Shelf, Aisle: r.Intn(9), Volume: r.Intn(80), Weight: r.Intn(80)})
	}
	for range r.Intn(10) {
		k := api.Key{Bin: anyCode(r, "b"), Item: anyCode(r, "i"), Lot: strconv.Itoa(r.Intn(2)), Status: 1 + r.Intn(3)}
		h.Quants = append(h.Quants, api.Quant{Key: k, Qty: oneOf(r, 1+r.Intn(5), 0, -3, 1<<62, 1<<62+1, math.MaxInt, math.MinInt), Held: r.Intn(3)})
	}
	if r.Intn(2) == 0 {
		slices.SortFunc(h.Items, func(a, b api.Item) int { return strings.Compare(a.Code, b.Code) })
		slices.SortFunc(h.Bins, func(a, b api.Bin) int { return strings.Compare(a.Code, b.Code) })
		slices.SortFunc(h.Quants, func(a, b api.Quant) int {
			return cmp.Or(strings.Compare(a.Bin, b.Bin), strings.Compare(a.Item, b.Item), strings.Compare(a.Lot, b.Lot), cmp.Compare(a.Status, b.Status))
		})
	}
	return h
}

// codesOf are the Codes of some bins of a house.
func codesOf(h api.House, places []int) []string {
	var l []string
	for _, i := range places {
		l = append(l, h.Bins[i].Code)
	}
	return l
}

// TestByTheWords: P11.1 to P11.6, thousands of random houses and changes held against the words of the document.
func TestByTheWords(t *testing.T) {
	r := rand.New(rand.NewSource(11))
	seen := map[string]int{}
	step := func(what string, h, g api.House, e api.Errno, then api.House, want api.Errno) api.House {
		t.Helper()
		seen[what+" "+strconv.Itoa(int(want))]++
		errno(t, what, e, want)
		same(t, what, g, then)
		if want != api.OK {
			return h
		}
		if before := len(overByWords(h)); before == 0 {
			seen[what+" within"]++
			over(t, what+" where no bin was overfull", g)
		}
		return g
	}
	for range 4000 {
		h := anyHouse(r)
		for range 10 {
			bin, item := anyCode(r, "b"), anyCode(r, "i")
			v, w := loadByWords(h, bin)
			load(t, "a random house", h, bin, v, w)
			seen["Over "+strconv.Itoa(min(len(overByWords(h)), 3))]++
			over(t, "a random house", h, codesOf(h, overByWords(h))...)
			qty := oneOf(r, r.Intn(9), -2, 1<<62, math.MaxInt, math.MinInt)
			want := fitsByWords(h, bin, item, qty)
			seen["Fits "+strconv.Itoa(int(want))]++
			fits(t, "a random house", h, bin, item, qty, want)

			volume, weight := oneOf(r, r.Intn(10), -1, 0, 1000000, 1000001, math.MaxInt), oneOf(r, r.Intn(10), -1, 0, 1000000, 1000001, math.MinInt)
			then, want := resizeByWords(h, item, volume, weight)
			g, e := Resize(h, item, volume, weight)
			h = step("Resize", h, g, e, then, want)

			volume, weight = oneOf(r, r.Intn(80), -1, 0, 1000000000000, 1000000000001, math.MinInt), oneOf(r, r.Intn(80), -1, 0, 1000000000000, 1000000000001, math.MaxInt)
			// At the load, or one off: an edge.
			if r.Intn(2) == 0 {
				v, w := loadByWords(h, bin)
				volume, weight = v-oneOf(r, 0, 1), w-oneOf(r, 0, 1)
			}
			then, want = limitByWords(h, bin, volume, weight)
			g, e = Limit(h, bin, volume, weight)
			h = step("Limit", h, g, e, then, want)
			if t.Failed() {
				t.Fatalf("the house was %+v", h)
			}
		}
	}
	for _, what := range []string{"Over 0", "Over 1", "Over 2", "Over 3", "Fits 0", "Fits 12", "Fits 26", "Resize 0", "Resize 12", "Resize 5", "Resize 26",
		"Resize within", "Limit 0", "Limit 12", "Limit 5", "Limit 26", "Limit within"} {
		if seen[what] < 100 {
			t.Errorf("%s came up %d times", what, seen[what])
		}
	}
}
