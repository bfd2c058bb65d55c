package room

import (
	"math"
	"reflect"
	"slices"
	"strconv"
	"strings"
	"testing"

	"stevedore/api"
)

// zero is a house without anything: the one beside an error.
var zero api.House

// number is a number that a test wrote out.
func number(s string) int {
	n, err := strconv.Atoi(s)
	if err != nil {
		panic(s)
	}
	return n
}

// measured takes a word like "nut=3,1" apart: a code, a volume and a weight.
func measured(word string) (string, int, int) {
	code, both, _ := strings.Cut(word, "=")
	volume, weight, _ := strings.Cut(both, ",")
	return code, number(volume), number(weight)
}

// itemsOf makes items of words like "nut=3,1", with something in each other field.
func itemsOf(text string) []api.Item {
	var l []api.Item
	for _, w := range strings.Fields(text) {
		code, volume, weight := measured(w)
		units := [api.MaxUnits]api.Unit{{Name: "box", Factor: 12}, 3: {Name: "case", Factor: 240}}
		l = append(l, api.Item{Code: code, Units: units, Volume: volume, Weight: weight, Lots: true, Serial: true, Check: true})
	}
	return l
}

// binsOf makes bins of words like "b=10,10", with something in each other field.
func binsOf(text string) []api.Bin {
	var l []api.Bin
	for i, w := range strings.Fields(text) {
		code, volume, weight := measured(w)
		l = append(l, api.Bin{Code: code, Zone: "zone", Kind: api.Cart, Aisle: i + 1, Place: 7, Volume: volume, Weight: weight, Frozen: true})
	}
	return l
}

// quantsOf makes quants of words like "b/nut/7/1=2": a bin, an item, a lot, a status, and how much. What is held of them makes no difference, so it is more than that.
func quantsOf(text string) []api.Quant {
	var l []api.Quant
	for _, w := range strings.Fields(text) {
		name, qty, _ := strings.Cut(w, "=")
		f := strings.Split(name, "/")
		l = append(l, api.Quant{Key: api.Key{Bin: f[0], Item: f[1], Lot: f[2], Status: number(f[3])}, Qty: number(qty), Held: 1000})
	}
	return l
}

// houseOf is a house with these items, bins and quants, and something in each other list.
func houseOf(items []api.Item, bins []api.Bin, quants []api.Quant) api.House {
	k := api.Key{Bin: "b", Item: "nut", Lot: "lot", Status: api.Free}
	return api.House{
		Items:   items,
		Lots:    []api.Lot{{Item: "nut", Code: "lot", Expiry: 9}},
		Zones:   []api.Zone{{Code: "zone", Site: "site"}},
		Bins:    bins,
		Quants:  quants,
		Rules:   []api.Rule{{Item: "nut", Zone: "zone", Rank: 1}},
		Notices: []api.Notice{{Code: "notice", Site: "site"}},
		Orders:  []api.Order{{Code: "order", Site: "site"}},
		Claims:  []api.Claim{{Order: "order", Line: 1, Key: k, Qty: 3, Task: 7}},
		Tasks:   []api.Task{{Number: 7, Kind: api.Pick, Order: "order", From: k, To: "cart", Qty: 3}},
		Parcels: []api.Parcel{{Bin: "b", Order: "order"}},
		Sent:    []api.Sent{{Order: "order", Item: "nut", Lot: "lot", Qty: 2, Back: 1}},
		Counted: []api.Counted{{Key: k, Qty: 4}},
		Totals:  []api.Total{{Item: "nut", Lot: "lot", In: 6, Out: 2}}, LastTask: 7,
	}
}

// laid is a house of words of items, bins and quants.
func laid(items, bins, quants string) api.House {
	return houseOf(itemsOf(items), binsOf(bins), quantsOf(quants))
}

// errno checks an error.
func errno(t *testing.T, what string, got, want api.Errno) {
	t.Helper()
	if got != want {
		t.Errorf("%s = %d, want %d", what, int(got), int(want))
	}
}

// same checks two houses, all of their lists; an empty list may be nil or not.
func same(t *testing.T, what string, got, want api.House) {
	t.Helper()
	if len(got.Items) == 0 && len(want.Items) == 0 {
		got.Items, want.Items = nil, nil
	}
	if len(got.Bins) == 0 && len(want.Bins) == 0 {
		got.Bins, want.Bins = nil, nil
	}
	if len(got.Quants) == 0 && len(want.Quants) == 0 {
		got.Quants, want.Quants = nil, nil
	}
	if !reflect.DeepEqual(got, want) {
		t.Errorf("%s is %+v, want %+v", what, got, want)
	}
}

// refused checks that a call answered an error, and nothing beside it.
func refused(t *testing.T, what string, g api.House, e, want api.Errno) {
	t.Helper()
	errno(t, what, e, want)
	same(t, what+": the house beside the error", g, zero)
}

// load checks what Load answers.
func load(t *testing.T, what string, h api.House, bin string, volume, weight int) {
	t.Helper()
	if v, w := Load(h, bin); v != volume || w != weight {
		t.Errorf("%s: Load of %q = %d, %d, want %d, %d", what, bin, v, w, volume, weight)
	}
}

// fits checks what Fits answers.
func fits(t *testing.T, what string, h api.House, bin, item string, qty int, want api.Errno) {
	t.Helper()
	errno(t, what+": Fits of "+strconv.Itoa(qty)+" of "+strconv.Quote(item)+" into "+strconv.Quote(bin), Fits(h, bin, item, qty), want)
}

// over checks what Over answers.
func over(t *testing.T, what string, h api.House, want ...string) {
	t.Helper()
	if got := Over(h); !slices.Equal(got, want) {
		t.Errorf("%s: Over = %q, want %q", what, got, want)
	}
}

// example is the house of the document's examples.
func example() api.House {
	h := laid("nut=3,1", "b=10,10", "b/nut//1=2")
	h.Quants[0].Held = 0
	return h
}

// TestExamples: the document's examples.
func TestExamples(t *testing.T) {
	h := example()
	load(t, "two nuts", h, "b", 6, 2)
	fits(t, "two nuts", h, "b", "nut", 1, api.OK)
	fits(t, "two nuts", h, "b", "nut", 2, api.ErrBinFull)

	want := example()
	want.Items[0].Volume = 5
	g, e := Resize(h, "nut", 5, 1)
	errno(t, "Resize to 5", e, api.OK)
	same(t, "Resize to 5", g, want)
	g, e = Resize(h, "nut", 6, 1)
	refused(t, "Resize to 6", g, e, api.ErrBinFull)

	want = example()
	want.Bins[0].Volume, want.Bins[0].Weight = 6, 2
	g, e = Limit(h, "b", 6, 2)
	errno(t, "Limit to 6, 2", e, api.OK)
	same(t, "Limit to 6, 2", g, want)
	g, e = Limit(h, "b", 5, 9)
	refused(t, "Limit to 5, 9", g, e, api.ErrBinFull)
	same(t, "the house that was passed", h, example())
}

// TestLoad: P11.1, over the quants of the bin alone, and those whose item is there.
func TestLoad(t *testing.T) {
	for _, c := range []struct {
		why, items, bins, quants, bin string
		volume, weight                int
	}{
		{"nothing", "", "", "", "b", 0, 0},
		{"no quants", "nut=3,1", "b=9,9", "", "b", 0, 0},
		{"quants of another bin", "nut=3,1", "a=9,9 b=9,9", "a/nut//1=2", "b", 0, 0},
		{"a quant", "nut=3,1", "b=9,9", "b/nut//1=2", "b", 6, 2},
		{"a quant of one", "nut=3,1", "b=9,9", "b/nut//1=1", "b", 3, 1},
		{"volume alone", "nut=3,0", "b=9,9", "b/nut//1=2", "b", 6, 0},
		{"weight alone", "nut=0,3", "b=9,9", "b/nut//1=2", "b", 0, 6},
		{"no measures", "nut=0,0", "b=9,9", "b/nut//1=2", "b", 0, 0},
		{"several items", "bolt=5,7 nut=3,1", "b=9,9", "b/bolt//1=10 b/nut//1=2", "b", 56, 72},
		{"several lots", "nut=3,1", "b=9,9", "b/nut/1/1=2 b/nut/2/1=10", "b", 36, 12},
		{"several statuses", "nut=3,1", "b=9,9", "b/nut//1=2 b/nut//2=20 b/nut//3=200", "b", 666, 222},
		{"a status and a lot that are none", "nut=3,1", "b=9,9", "b/nut/l.o.t/-4=2 b/nut//99=1", "b", 9, 3},
		{"several bins, the first", "nut=3,1", "a=9,9 b=9,9 c=9,9", "a/nut//1=1 b/nut//1=2 c/nut//1=4", "a", 3, 1},
		{"several bins, the middle", "nut=3,1", "a=9,9 b=9,9 c=9,9", "a/nut//1=1 b/nut//1=2 c/nut//1=4", "b", 6, 2},
		{"several bins, the last", "nut=3,1", "a=9,9 b=9,9 c=9,9", "a/nut//1=1 b/nut//1=2 c/nut//1=4", "c", 12, 4},
		{"codes that begin alike", "nut=3,1 nu=50,60", "b=9,9 bb=9,9", "bb/nut//1=1 b/nut//1=2 b/nuts//1=4 B/nut//1=8 b/Nut//1=16", "b", 6, 2},

		{"an item that is not there", "nut=3,1", "b=9,9", "b/gone//1=99", "b", 0, 0},
		{"an item that is not there, beside others", "bolt=5,7 nut=3,1", "b=9,9", "b/bolt//1=1 b/gone//1=99 b/nut//1=2", "b", 11, 9},
		{"an item that is there in another case", "nut=3,1", "b=9,9", "b/NUT//1=99", "b", 0, 0},
		{"a house without items", "", "b=9,9", "b/nut//1=2", "b", 0, 0},

		{"a quantity of 0", "nut=3,1", "b=9,9", "b/nut//1=0", "b", 0, 0},
		{"a quantity of 0 beside others", "nut=3,1", "b=9,9", "b/nut//1=0 b/nut//2=2", "b", 6, 2},
		{"a negative quantity", "nut=3,1", "b=9,9", "b/nut//1=-2", "b", -6, -2},
		{"a negative quantity beside others", "nut=3,1", "b=9,9", "b/nut//1=5 b/nut//2=-2 b/nut//3=1", "b", 12, 4},
		{"negative measures", "nut=-3,-1", "b=9,9", "b/nut//1=2", "b", -6, -2},
		{"both negative", "nut=-3,-1", "b=9,9", "b/nut//1=-2", "b", 6, 2},

		{"the first item of a code", "nut=3,1 nut=50,60", "b=9,9", "b/nut//1=2", "b", 6, 2},
		{"the first item of a code, in no order", "nut=3,1 bolt=5,7 nut=50,60 bolt=70,80", "b=9,9", "b/nut//1=2 b/bolt//1=1", "b", 11, 9},
		{"each quant of a key", "nut=3,1", "b=9,9", "b/nut//1=2 b/nut//1=2 b/nut//1=10", "b", 42, 14},
		{"quants in no order", "nut=3,1", "b=9,9", "c/nut//1=1 b/nut/2/1=2 a/nut//1=4 b/nut/1/1=8", "b", 30, 10},
		{"a bin's code twice", "nut=3,1", "b=9,9 b=5,5", "b/nut//1=2", "b", 6, 2},
		{"far more than the capacity", "nut=3,1", "b=0,0", "b/nut//1=1000000000", "b", 3000000000, 1000000000},

		{"a bin that is not there", "nut=3,1", "a=9,9", "a/nut//1=2", "b", 0, 0},
		{"a bin that is not there, with a quant", "nut=3,1", "a=9,9", "a/nut//1=4 b/nut//1=2", "b", 6, 2},
		{"the empty text", "nut=3,1", "b=9,9", "b/nut//1=2", "", 0, 0},
		{"the empty text, with a quant", "nut=3,1", "b=9,9", "b/nut//1=4 /nut//1=2", "", 6, 2},
		{"an item without a code", "=3,1", "b=9,9", "b///1=2", "b", 6, 2},
		{"an item without a code that is not there", "nut=3,1", "b=9,9", "b///1=2", "b", 0, 0},
	} {
		load(t, c.why, laid(c.items, c.bins, c.quants), c.bin, c.volume, c.weight)
	}
}

// TestLoadWraps: P11.1 and R4, sums and products of 64 bits.
func TestLoadWraps(t *testing.T) {
	for _, c := range []struct {
		why, items, quants string
		volume, weight     int
	}{
		{"the greatest number", "nut=9223372036854775807,1", "b/nut//1=1", math.MaxInt, 1},
		{"a sum of one more", "nut=9223372036854775807,1 bolt=1,0", "b/nut//1=1 b/bolt//1=1", math.MinInt, 1},
		{"a sum of two more", "nut=9223372036854775807,1 bolt=1,9223372036854775807", "b/nut//1=1 b/bolt//1=2", math.MinInt + 1, -1},
		{"a sum of the least number and one less", "nut=-9223372036854775808,-1 bolt=-1,0", "b/nut//1=1 b/bolt//1=1", math.MaxInt, -1},
		{"a product of 2^63", "nut=2,1", "b/nut//1=4611686018427387904", math.MinInt, 1 << 62},
		{"a product of 2^64", "nut=4,1", "b/nut//1=4611686018427387904", 0, 1 << 62},
		{"a product of 2^64 and 4", "nut=4,0", "b/nut//1=4611686018427387905", 4, 0},
		{"the least number negated", "nut=-1,1", "b/nut//1=-9223372036854775808", math.MinInt, math.MinInt},
		{"there and back", "nut=9223372036854775807,2", "b/nut//1=2 b/nut//2=-2 b/nut//3=1", math.MaxInt, 2},
		{"beyond 32 bits", "nut=1000000,65536", "b/nut//1=1000000000", 1000000000000000, 65536000000000},
	} {
		load(t, c.why, laid(c.items, "b=9,9", c.quants), "b", c.volume, c.weight)
	}
}

// TestFits: P11.2, the edges of each capacity, alone and both; the first item and the first bin of a code say.
func TestFits(t *testing.T) {
	for _, c := range []struct {
		why, items, bins, quants, bin, item string
		qty                                 int
		want                                api.Errno
	}{
		{"one, just the volume", "nut=3,1", "b=9,99", "b/nut//1=2", "b", "nut", 1, api.OK},
		{"one, a volume of one too many", "nut=3,1", "b=8,99", "b/nut//1=2", "b", "nut", 1, api.ErrBinFull},
		{"one, just the weight", "nut=1,3", "b=99,9", "b/nut//1=2", "b", "nut", 1, api.OK},
		{"one, a weight of one too many", "nut=1,3", "b=99,8", "b/nut//1=2", "b", "nut", 1, api.ErrBinFull},
		{"just both", "nut=3,1", "b=9,3", "b/nut//1=2", "b", "nut", 1, api.OK},
		{"just the weight, the volume one too many", "nut=3,1", "b=8,3", "b/nut//1=2", "b", "nut", 1, api.ErrBinFull},
		{"just the volume, the weight one too many", "nut=3,1", "b=9,2", "b/nut//1=2", "b", "nut", 1, api.ErrBinFull},
		{"both one too many", "nut=3,1", "b=8,2", "b/nut//1=2", "b", "nut", 1, api.ErrBinFull},
		{"several, just both", "nut=3,1", "b=30,10", "b/nut//1=2", "b", "nut", 8, api.OK},
		{"several, one piece too many", "nut=3,1", "b=30,10", "b/nut//1=2", "b", "nut", 9, api.ErrBinFull},

		{"into an empty bin, just both", "nut=3,1", "b=6,2", "", "b", "nut", 2, api.OK},
		{"into an empty bin, too many", "nut=3,1", "b=6,2", "", "b", "nut", 3, api.ErrBinFull},
		{"no capacity", "nut=3,1", "b=0,0", "", "b", "nut", 1, api.ErrBinFull},
		{"no capacity for volume", "nut=3,1", "b=0,9", "", "b", "nut", 1, api.ErrBinFull},
		{"no capacity for weight", "nut=3,1", "b=9,0", "", "b", "nut", 1, api.ErrBinFull},
		{"no capacity, and no measures", "nut=0,0", "b=0,0", "b/nut//1=9", "b", "nut", 1000000000, api.OK},
		{"no capacity, and nothing", "nut=3,1", "b=0,0", "", "b", "nut", 0, api.OK},
		{"no capacity for volume, and none needed", "nut=0,1", "b=0,9", "", "b", "nut", 9, api.OK},
		{"no capacity for weight, and none needed", "nut=1,0", "b=9,0", "", "b", "nut", 9, api.OK},

		{"nothing more, just full", "nut=3,1", "b=6,2", "b/nut//1=2", "b", "nut", 0, api.OK},
		{"nothing more, overfull by volume", "nut=3,1", "b=5,2", "b/nut//1=2", "b", "nut", 0, api.ErrBinFull},
		{"nothing more, overfull by weight", "nut=3,1", "b=6,1", "b/nut//1=2", "b", "nut", 0, api.ErrBinFull},
		{"less, and still overfull", "nut=3,1", "b=2,9", "b/nut//1=2", "b", "nut", -1, api.ErrBinFull},
		{"less, and no more overfull", "nut=3,1", "b=3,9", "b/nut//1=2", "b", "nut", -1, api.OK},
		{"less than nothing", "nut=3,1", "b=0,0", "", "b", "nut", -5, api.OK},
		{"a negative quantity makes room", "nut=3,1", "b=6,9", "b/nut//1=2 b/nut//2=-2", "b", "nut", 2, api.OK},
		{"a negative capacity", "nut=3,1", "b=-1,9", "", "b", "nut", 0, api.ErrBinFull},
		{"a negative capacity, and as much less", "nut=1,1", "b=-1,9", "", "b", "nut", -1, api.OK},

		{"another item, just both", "bolt=5,7 nut=3,1", "b=11,9", "b/nut//1=2", "b", "bolt", 1, api.OK},
		{"another item, too great", "bolt=5,7 nut=3,1", "b=10,9", "b/nut//1=2", "b", "bolt", 1, api.ErrBinFull},
		{"another item, too heavy", "bolt=5,7 nut=3,1", "b=11,8", "b/nut//1=2", "b", "bolt", 1, api.ErrBinFull},
		{"an item without measures into a full bin", "air=0,0 nut=3,1", "b=6,2", "b/nut//1=2", "b", "air", 99, api.OK},
		{"an item without measures into an overfull bin", "air=0,0 nut=3,1", "b=5,2", "b/nut//1=2", "b", "air", 99, api.ErrBinFull},
		{"beside an item that is not there", "nut=3,1", "b=3,1", "b/gone//1=99", "b", "nut", 1, api.OK},
		{"other bins make no difference", "nut=3,1", "a=0,0 b=3,1 c=0,0", "a/nut//1=9 c/nut//1=9", "b", "nut", 1, api.OK},

		{"the first item says, which is less", "nut=3,1 nut=9,9", "b=9,3", "b/nut//1=2", "b", "nut", 1, api.OK},
		{"the first item says, which is more", "nut=9,9 nut=3,1", "b=26,99", "b/nut//1=2", "b", "nut", 1, api.ErrBinFull},
		{"the first bin says, which is more", "nut=3,1", "b=9,3 b=1,1", "b/nut//1=2", "b", "nut", 1, api.OK},
		{"the first bin says, which is less", "nut=3,1", "b=8,3 b=99,99", "b/nut//1=2", "b", "nut", 1, api.ErrBinFull},
		{"lists in no order", "nut=3,1 bolt=5,7 air=0,0", "c=0,0 b=11,9 a=0,0", "b/nut//1=2 a/nut//1=9", "b", "bolt", 1, api.OK},

		{"no such bin", "nut=3,1", "b=9,9", "", "x", "nut", 1, api.ErrNone},
		{"no such bin, though a quant is in it", "nut=3,1", "b=9,9", "x/nut//1=1", "x", "nut", 1, api.ErrNone},
		{"no bin", "nut=3,1", "b=9,9", "", "", "nut", 1, api.ErrNone},
		{"no such item", "nut=3,1", "b=9,9", "", "b", "gone", 1, api.ErrNone},
		{"no such item, though a quant of it is there", "nut=3,1", "b=9,9", "b/gone//1=1", "b", "gone", 1, api.ErrNone},
		{"no item", "nut=3,1", "b=9,9", "", "b", "", 1, api.ErrNone},
		{"neither", "nut=3,1", "b=9,9", "", "nut", "b", 1, api.ErrNone},
		{"neither, both empty", "nut=3,1", "b=9,9", "", "", "", 1, api.ErrNone},
		{"nothing at all", "", "", "", "b", "nut", 1, api.ErrNone},
		{"a house without bins", "nut=3,1", "", "b/nut//1=1", "b", "nut", 1, api.ErrNone},
		{"a house without items", "", "b=9,9", "b/nut//1=1", "b", "nut", 1, api.ErrNone},
		{"no such item, and overfull", "nut=3,1", "b=5,2", "b/nut//1=2", "b", "gone", 1, api.ErrNone},
		{"no such item, and nothing", "nut=3,1", "b=5,2", "b/nut//1=2", "b", "gone", 0, api.ErrNone},
		{"no such bin, and far too many", "nut=3,1", "b=5,2", "b/nut//1=2", "x", "nut", math.MaxInt, api.ErrNone},
		{"other letters of a bin", "nut=3,1", "b=9,9", "", "B", "nut", 1, api.ErrNone},
		{"other letters of an item", "nut=3,1", "b=9,9", "", "b", "Nut", 1, api.ErrNone},
		{"codes without letters that are there", "=3,1", "=3,1", "", "", "", 1, api.OK},
		{"codes without letters that are there, and full", "=3,1", "=3,1", "///1=1", "", "", 1, api.ErrBinFull},
	} {
		fits(t, c.why, laid(c.items, c.bins, c.quants), c.bin, c.item, c.qty, c.want)
	}
}

// TestFitsWraps: P11.2 and R4, sums and products of 64 bits, and numbers beyond 32 bits.
func TestFitsWraps(t *testing.T) {
	for _, c := range []struct {
		why, items, bins, quants string
		qty                      int
		want                     api.Errno
	}{
		{"the greatest capacities", "nut=1,1", "b=1000000000000,1000000000000", "", 1000000000000, api.OK},
		{"more than the greatest capacities", "nut=1,1", "b=1000000000000,1000000000000", "", 1000000000001, api.ErrBinFull},
		{"a million of the greatest", "nut=1000000,1000000", "b=1000000000000,1000000000000", "", 1000000, api.OK},
		{"a million of the greatest and one", "nut=1000000,1000000", "b=1000000000000,1000000000000", "", 1000001, api.ErrBinFull},
		{"a product of 2^63", "nut=2,0", "b=0,0", "", 1 << 62, api.OK},
		{"a product of 2^63 - 2", "nut=2,0", "b=9,0", "", 1<<62 - 1, api.ErrBinFull},
		{"a product of 2^64 and 4", "nut=4,0", "b=4,0", "", 1<<62 + 1, api.OK},
		{"a product of 2^64 and 4, one too many", "nut=4,0", "b=3,0", "", 1<<62 + 1, api.ErrBinFull},
		{"a sum of 2^63", "nut=1,0", "b=0,0", "b/nut//1=9223372036854775807", 1, api.OK},
		{"a sum of 2^63 - 1", "nut=1,0", "b=9223372036854775806,0", "b/nut//1=9223372036854775806", 1, api.ErrBinFull},
		{"a sum of -2^63 - 1", "nut=1,0", "b=9,0", "b/nut//1=-9223372036854775808", -1, api.ErrBinFull},
		{"the least number", "nut=1,1", "b=0,0", "", math.MinInt, api.OK},
		{"the greatest number", "nut=1,1", "b=9223372036854775807,9223372036854775807", "", math.MaxInt, api.OK},
		{"the weight alone wraps around", "nut=0,2", "b=0,0", "", 1 << 62, api.OK},
		{"the volume wraps around, the weight does not", "nut=2,1", "b=0,9", "", 1 << 62, api.ErrBinFull},
	} {
		fits(t, c.why, laid(c.items, c.bins, c.quants), "b", "nut", c.qty, c.want)
	}
}

// TestOver: P11.3, the edges of each capacity, alone and both, and the order of the bins.
func TestOver(t *testing.T) {
	for _, c := range []struct{ why, items, bins, quants, want string }{
		{"nothing", "", "", "", ""},
		{"no bins", "nut=3,1", "", "b/nut//1=2", ""},
		{"no quants", "nut=3,1", "a=1,1 b=0,0", "", ""},
		{"just both", "nut=3,1", "b=6,2", "b/nut//1=2", ""},
		{"the volume one too many", "nut=3,1", "b=5,2", "b/nut//1=2", "b"},
		{"the weight one too many", "nut=3,1", "b=6,1", "b/nut//1=2", "b"},
		{"both one too many", "nut=3,1", "b=5,1", "b/nut//1=2", "b"},
		{"room for more", "nut=3,1", "b=7,3", "b/nut//1=2", ""},
		{"the volume of it, but not the weight", "nut=3,1", "b=99,1", "b/nut//1=2", "b"},
		{"the weight of it, but not the volume", "nut=3,1", "b=5,99", "b/nut//1=2", "b"},
		{"no capacity", "nut=3,1", "b=0,0", "b/nut//1=1", "b"},
		{"no capacity, and no measures", "nut=0,0", "b=0,0", "b/nut//1=1", ""},
		{"no capacity, and a quantity of 0", "nut=3,1", "b=0,0", "b/nut//1=0", ""},
		{"no capacity, and a negative quantity", "nut=3,1", "b=0,0", "b/nut//1=-1", ""},
		{"no capacity, and an item that is not there", "nut=3,1", "b=0,0", "b/gone//1=99", ""},
		{"an item that is not there, beside others", "nut=3,1", "b=6,2", "b/gone//1=99 b/nut//1=2", ""},
		{"a negative capacity, and no quants", "nut=3,1", "b=-1,0 c=0,-1 d=0,0", "", "b c"},
		{"a sum of several items, just both", "bolt=5,7 nut=3,1", "b=11,9", "b/bolt//1=1 b/nut//1=2", ""},
		{"a sum of several items, one too many", "bolt=5,7 nut=3,1", "b=10,9", "b/bolt//1=1 b/nut//1=2", "b"},
		{"a sum of lots and statuses, just both", "nut=3,1", "b=21,7", "b/nut/1/1=1 b/nut/1/2=2 b/nut/2/3=4", ""},
		{"a sum of lots and statuses, one too many", "nut=3,1", "b=21,6", "b/nut/1/1=1 b/nut/1/2=2 b/nut/2/3=4", "b"},
		{"a sum that wraps around to less", "nut=1,0 bolt=1,0", "b=9,9", "b/nut//1=9223372036854775807 b/bolt//1=1", ""},
		{"a sum that wraps around to more", "nut=1,0 bolt=1,0", "b=9,9", "b/nut//1=-9223372036854775808 b/bolt//1=-1", "b"},
		{"a product that wraps around", "nut=4,0", "b=4,0 c=3,0", "b/nut//1=4611686018427387905 c/nut//1=4611686018427387905", "c"},

		{"the first of several", "nut=3,1", "a=5,2 b=6,2 c=6,2", "a/nut//1=2 b/nut//1=2 c/nut//1=2", "a"},
		{"the middle of several", "nut=3,1", "a=6,2 b=5,2 c=6,2", "a/nut//1=2 b/nut//1=2 c/nut//1=2", "b"},
		{"the last of several", "nut=3,1", "a=6,2 b=6,2 c=5,2", "a/nut//1=2 b/nut//1=2 c/nut//1=2", "c"},
		{"all of them", "nut=3,1", "a=5,2 b=6,1 c=0,0", "a/nut//1=2 b/nut//1=2 c/nut//1=2", "a b c"},
		{"the order of the bins, not of the quants", "nut=3,1", "a=0,0 b=0,0 c=0,0", "c/nut//1=1 a/nut//1=1 b/nut//1=1", "a b c"},
		{"bins in no order", "nut=3,1", "c=0,0 a=0,0 d=9,9 b=0,0", "a/nut//1=1 b/nut//1=1 c/nut//1=1 d/nut//1=1", "c a b"},
		{"a bin that is not there", "nut=3,1", "a=0,0", "b/nut//1=99", ""},
		{"a bin without a code", "nut=3,1", "=0,0 a=0,0", "/nut//1=1 a/nut//1=0", "-"},

		// Each bin of a code by its own capacity, and as often as it is there.
		{"a code twice, both overfull", "nut=3,1", "b=5,2 b=4,2", "b/nut//1=2", "b b"},
		{"a code twice, the first overfull", "nut=3,1", "b=5,2 b=6,2", "b/nut//1=2", "b"},
		{"a code twice, the second overfull", "nut=3,1", "b=6,2 b=5,2", "b/nut//1=2", "b"},
		{"a code twice, neither overfull", "nut=3,1", "b=6,2 b=7,3", "b/nut//1=2", ""},
		{"a code twice, with others between", "nut=3,1", "b=5,2 a=0,0 c=0,0 b=4,2 a=9,9", "b/nut//1=2 a/nut//1=1", "b a b"},
		{"the first item says", "nut=3,1 nut=9,9", "b=6,2", "b/nut//1=2", ""},
		{"the first item says, which is more", "nut=9,9 nut=3,1", "b=6,2", "b/nut//1=2", "b"},
	} {
		want := strings.Fields(c.want)
		if c.want == "-" {
			want = []string{""}
		}
		over(t, c.why, laid(c.items, c.bins, c.quants), want...)
	}
}

// TestAnyCodes: P11.1 to P11.3, codes need not be names.
func TestAnyCodes(t *testing.T) {
	for _, code := range []string{"", " ", "a b", "\xff", "\x00", strings.Repeat("x", 300)} {
		h := houseOf([]api.Item{{Code: "nut", Volume: 9}, {Code: code, Volume: 3, Weight: 1}}, []api.Bin{{Code: "b", Volume: 99}, {Code: code, Volume: 6, Weight: 2}},
			[]api.Quant{{Key: api.Key{Bin: code, Item: code}, Qty: 1}})
		what := strconv.Quote(code)
		load(t, what, h, code, 3, 1)
		fits(t, what, h, code, code, 1, api.OK)
		fits(t, what, h, code, code, 2, api.ErrBinFull)
		over(t, what, h)
		h.Quants[0].Qty = 3
		over(t, what, h, code)
	}
}
