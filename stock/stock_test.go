package stock

import (
	"math"
	"reflect"
	"slices"
	"strconv"
	"strings"
	"testing"

	"stevedore/api"
)

// zero is a house without anything: the one beside an error.
var zero api.House

// number is a number that a test wrote out.
func number(s string) int {
	n, err := strconv.Atoi(s)
	if err != nil {
		panic(s)
	}
	return n
}

// measured takes a word like "nut=3,1" apart: a code, a volume and a weight.
func measured(word string) (string, int, int) {
	code, both, _ := strings.Cut(word, "=")
	volume, weight, _ := strings.Cut(both, ",")
	return code, number(volume), number(weight)
}

// itemsOf makes items of words like "nut=3,1".
func itemsOf(text string) []api.Item {
	var l []api.Item
	for _, w := range strings.Fields(text) {
		code, volume, weight := measured(w)
		l = append(l, api.Item{Code: code, Volume: volume, Weight: weight, Lots: true, Check: true})
	}
	return l
}

// binsOf makes bins of words like "b=10,10"; a frozen one has a mark: "b=10,10!".
func binsOf(text string) []api.Bin {
	var l []api.Bin
	for i, w := range strings.Fields(text) {
		w, frozen := strings.CutSuffix(w, "!")
		code, volume, weight := measured(w)
		l = append(l, api.Bin{Code: code, Zone: "zone", Kind: api.Cart, Aisle: i + 1, Place: 7, Volume: volume, Weight: weight, Frozen: frozen})
	}
	return l
}

// keyOf makes a key of a word like "b/nut/7/1": a bin, an item, a lot and a status.
func keyOf(word string) api.Key {
	f := strings.Split(word, "/")
	return api.Key{Bin: f[0], Item: f[1], Lot: f[2], Status: number(f[3])}
}

// quantsOf makes quants of words like "b/nut/7/1=5:2": a key, how much, and how much of that is held (without it: nothing).
func quantsOf(text string) []api.Quant {
	var l []api.Quant
	for _, w := range strings.Fields(text) {
		key, both, _ := strings.Cut(w, "=")
		qty, held, isHeld := strings.Cut(both, ":")
		q := api.Quant{Key: keyOf(key), Qty: number(qty)}
		if isHeld {
			q.Held = number(held)
		}
		l = append(l, q)
	}
	return l
}

// houseOf is a house with these items, bins and quants, and something in each other list.
func houseOf(items []api.Item, bins []api.Bin, quants []api.Quant) api.House {
	k := api.Key{Bin: "b", Item: "nut", Lot: "lot", Status: api.Free}
	return api.House{
		Items:   items,
		Lots:    []api.Lot{{Item: "nut", Code: "lot", Expiry: 9}},
		Zones:   []api.Zone{{Code: "zone", Site: "site"}},
		Bins:    bins,
		Quants:  quants,
		Rules:   []api.Rule{{Item: "nut", Zone: "zone", Rank: 1}},
		Notices: []api.Notice{{Code: "notice", Site: "site"}},
		Orders:  []api.Order{{Code: "order", Site: "site"}},
		Claims:  []api.Claim{{Order: "order", Line: 1, Key: k, Qty: 3, Task: 7}},
		Tasks:   []api.Task{{Number: 7, Kind: api.Pick, Order: "order", From: k, To: "cart", Qty: 3}},
		Parcels: []api.Parcel{{Bin: "b", Order: "order"}},
		Sent:    []api.Sent{{Order: "order", Item: "nut", Lot: "lot", Qty: 2, Back: 1}},
		Counted: []api.Counted{{Key: k, Qty: 4}},
		Totals:  []api.Total{{Item: "nut", Lot: "lot", In: 6, Out: 2}}, LastTask: 7,
	}
}

// laid is a house of words of items, bins and quants.
func laid(items, bins, quants string) api.House {
	return houseOf(itemsOf(items), binsOf(bins), quantsOf(quants))
}

// stocked is a house of words of quants, without an item or a bin of theirs: those who do not ask for these need none.
func stocked(quants string) api.House { return laid("other=1,1", "other=0,0!", quants) }

// restocked is a house with other quants.
func restocked(h api.House, quants ...api.Quant) api.House {
	h.Quants = quants
	return h
}

// same checks two houses, all of their lists; an empty list of quants may be nil or not.
func same(t *testing.T, what string, got, want api.House) {
	t.Helper()
	if !slices.Equal(got.Quants, want.Quants) {
		t.Errorf("%s has the quants %+v, want %+v", what, got.Quants, want.Quants)
	}
	if !reflect.DeepEqual(restocked(got), restocked(want)) {
		t.Errorf("%s is but for its quants %+v, want %+v", what, restocked(got), restocked(want))
	}
}

// outcome checks what a call answered: the house that is wanted, or an error and nothing beside it.
func outcome(t *testing.T, what string, g api.House, e api.Errno, then api.House, want api.Errno) {
	t.Helper()
	if e != want {
		t.Errorf("%s = %d, want %d", what, int(e), int(want))
	}
	if want != api.OK {
		then = zero
	}
	same(t, what+": the house that came", g, then)
}

// change is what a case of Put, Take or Hold does, and what comes of it: then is the quants behind it, in words.
type change struct {
	why, quants, key string
	qty              int
	want             api.Errno
	then             string
}

// changes makes every change of some cases by a call.
func changes(t *testing.T, call func(api.House, api.Key, int) (api.House, api.Errno), cases []change) {
	t.Helper()
	for _, c := range cases {
		h := stocked(c.quants)
		g, e := call(h, keyOf(c.key), c.qty)
		what := c.why + ": " + strconv.Itoa(c.qty) + " of " + c.key
		outcome(t, what, g, e, stocked(c.then), c.want)
		same(t, what+": the house that was passed", h, stocked(c.quants))
	}
}

// TestExamples: the document's examples.
func TestExamples(t *testing.T) {
	nuts := "b/nut//1=5:2"
	changes(t, Take, []change{
		{"five nuts, two held", nuts, "b/nut//1", 4, api.ErrHeld, ""},
		{"five nuts, two held", nuts, "b/nut//1", 6, api.ErrShort, ""},
		{"five nuts, two held", nuts, "b/nut//1", 3, api.OK, "b/nut//1=2:2"},
	})
	changes(t, Hold, []change{
		{"five nuts, two held", nuts, "b/nut//1", 4, api.ErrHeld, ""},
		{"five nuts, two held", nuts, "b/nut//1", -3, api.ErrHeld, ""},
	})
	moves(t, []move{{"five nuts, two held", "nut=3,1", "b=99,99", nuts, "b/nut//1", 3, "b", api.ErrArg, ""}})
}

// TestFind: P12.1, the first quant of the key, which all four fields make.
func TestFind(t *testing.T) {
	for _, c := range []struct{ why, quants, key, want string }{
		{"the only one", "b/nut/7/1=5:2", "b/nut/7/1", "b/nut/7/1=5:2"},
		{"the first", "a/nut//1=1 b/nut//1=2:1 c/nut//1=3", "a/nut//1", "a/nut//1=1"},
		{"the middle one", "a/nut//1=1 b/nut//1=2:1 c/nut//1=3", "b/nut//1", "b/nut//1=2:1"},
		{"the last", "a/nut//1=1 b/nut//1=2:1 c/nut//1=3", "c/nut//1", "c/nut//1=3"},
		{"in no order", "c/nut//1=3 a/nut//1=1 b/nut//1=2:1", "a/nut//1", "a/nut//1=1"},
		{"twice: the first", "b/nut//1=5:2 b/nut//1=9:3", "b/nut//1", "b/nut//1=5:2"},
		{"twice, with others between: the first", "c/nut//1=1 b/nut//1=9 a/nut//1=2 b/nut//1=5:2", "b/nut//1", "b/nut//1=9"},
		{"among those that differ in one field", "a/nut/7/1=1 b/bolt/7/1=2 b/nut/6/1=3 b/nut/7/1=4 b/nut/7/2=5", "b/nut/7/1", "b/nut/7/1=4"},
		{"a quantity of 0", "b/nut//1=0", "b/nut//1", "b/nut//1=0"},
		{"a negative quantity", "b/nut//1=-5:-2", "b/nut//1", "b/nut//1=-5:-2"},
		{"held beyond the quantity", "b/nut//1=5:9", "b/nut//1", "b/nut//1=5:9"},
		{"a status that is none", "b/nut//-4=5", "b/nut//-4", "b/nut//-4=5"},
		{"empty texts and a status of 0", "///0=5", "///0", "///0=5"},

		{"nothing there", "", "b/nut//1", ""},
		{"another bin", "a/nut/7/1=5", "b/nut/7/1", ""},
		{"another item", "b/bolt/7/1=5", "b/nut/7/1", ""},
		{"another lot", "b/nut/6/1=5", "b/nut/7/1", ""},
		{"no lot", "b/nut//1=5", "b/nut/7/1", ""},
		{"another status", "b/nut/7/2=5", "b/nut/7/1", ""},
		{"a status that is greater by 2^32", "b/nut/7/1=5", "b/nut/7/4294967297", ""},
		{"other letters", "B/nut//1=5 b/Nut//1=5", "b/nut//1", ""},
		{"a beginning of another", "bb/nut//1=5 b/nuts//1=5 b/nut/77/1=5", "b/nut/7/1", ""},
		{"fields that join to the same text", "bn/ut//1=5 b/nu/t/1=5", "b/nut//1", ""},
		{"empty texts", "b/nut/7/1=5", "///1", ""},
		{"empty texts and a status of 0", "b/nut/7/1=5", "///0", ""},
	} {
		want := append(quantsOf(c.want), api.Quant{})[0]
		h := stocked(c.quants)
		if q, found := Find(h, keyOf(c.key)); q != want || found != (c.want != "") {
			t.Errorf("%s: Find of %s = %+v, %v, want %+v", c.why, c.key, q, found, want)
		}
		same(t, c.why+": the house that was passed", h, stocked(c.quants))
	}
}

// total checks what Total answers.
func total(t *testing.T, what string, h api.House, item, lot string, want int) {
	t.Helper()
	if n := Total(h, item, lot); n != want {
		t.Errorf("%s: Total of %q, %q = %d, want %d", what, item, lot, n, want)
	}
}

// TestTotal: P12.1, all quants of the item and lot, in whatever bin and status.
func TestTotal(t *testing.T) {
	for _, c := range []struct {
		why, quants, item, lot string
		want                   int
	}{
		{"nothing there", "", "nut", "", 0},
		{"nothing of it there", "b/bolt//1=5 b/nut/7/1=9", "nut", "", 0},
		{"one", "b/nut//1=5", "nut", "", 5},
		{"what is held counts once", "b/nut//1=5:2", "nut", "", 5},
		{"held beyond the quantity", "b/nut//1=5:9", "nut", "", 5},
		{"several bins", "a/nut//1=1 b/nut//1=20 c/nut//1=300", "nut", "", 321},
		{"several statuses", "b/nut//1=1 b/nut//2=20 b/nut//3=300", "nut", "", 321},
		{"statuses and bins that are none", "/nut//0=1 b/nut//-7=20 gone/nut//99=300", "nut", "", 321},
		{"a bin that is counted", "other/nut//1=5", "nut", "", 5},
		{"a lot among others", "a/nut//1=1 a/nut/7/1=20 b/nut/77/1=300 c/nut/7/2=4000", "nut", "7", 4020},
		{"no lot among lots", "a/nut//1=1 a/nut/7/1=20 b/nut//3=300", "nut", "", 301},
		{"an item among others", "a/bolt//1=1 a/nut//1=20 a/nuts//1=300 b/Nut//1=4000 b/nut//1=50000", "nut", "", 50020},
		{"in no order", "c/nut//1=1 a/nut//1=20 b/bolt//1=300 a/bolt//1=4000", "nut", "", 21},
		{"a key twice: each", "b/nut//1=5 a/nut//1=20 b/nut//1=300", "nut", "", 325},
		{"a quantity of 0", "b/nut//1=0 b/nut//2=5", "nut", "", 5},
		{"negative quantities", "a/nut//1=-5 b/nut//1=3 c/nut//1=-20", "nut", "", -22},
		{"empty texts", "b///1=5 b/nut//1=20", "", "", 5},
		{"empty texts that are not there", "b/nut/7/1=20", "", "", 0},
		{"the item as the lot", "b/7/nut/1=5", "nut", "7", 0},
		{"texts that join to the same", "b/nu/t/1=5", "nut", "", 0},
		{"beyond 32 bits", "a/nut//1=1000000000 b/nut//1=1000000000 c/nut//1=1000000000 d/nut//1=1000000000 e/nut//1=1000000000", "nut", "", 5000000000},
		{"the greatest number", "a/nut//1=9223372036854775806 b/nut//1=1", "nut", "", math.MaxInt},
		{"one more wraps around", "a/nut//1=9223372036854775807 b/nut//1=1", "nut", "", math.MinInt},
		{"one less wraps around", "a/nut//1=-9223372036854775808 b/nut//1=-1", "nut", "", math.MaxInt},
		{"there and back", "a/nut//1=9223372036854775807 b/nut//1=2 c/nut//1=-4", "nut", "", math.MaxInt - 2},
	} {
		h := stocked(c.quants)
		total(t, c.why, h, c.item, c.lot, c.want)
		same(t, c.why+": the house that was passed", h, stocked(c.quants))
	}
}

// TestPut: P12.2, more of a quant, and a new one; neither its bin nor its item need be there, nor does room matter.
func TestPut(t *testing.T) {
	changes(t, Put, []change{
		{"more", "b/nut//1=5", "b/nut//1", 3, api.OK, "b/nut//1=8"},
		{"more, and as much is held", "b/nut//1=5:2", "b/nut//1", 3, api.OK, "b/nut//1=8:2"},
		{"one more of one", "b/nut//1=1:1", "b/nut//1", 1, api.OK, "b/nut//1=2:1"},
		{"one new", "", "b/nut//1", 1, api.OK, "b/nut//1=1"},
		{"the most new", "", "b/nut//1", 1000000000, api.OK, "b/nut//1=1000000000"},
		{"new beside one with something held", "a/nut//1=5:2", "b/nut//1", 3, api.OK, "a/nut//1=5:2 b/nut//1=3"},

		// The greatest quantity.
		{"up to the greatest", "b/nut//1=999999997", "b/nut//1", 3, api.OK, "b/nut//1=1000000000"},
		{"beyond the greatest", "b/nut//1=999999998", "b/nut//1", 3, api.ErrQty, ""},
		{"one up to the greatest", "b/nut//1=999999999", "b/nut//1", 1, api.OK, "b/nut//1=1000000000"},
		{"one beyond the greatest", "b/nut//1=1000000000", "b/nut//1", 1, api.ErrQty, ""},
		{"the most to one", "b/nut//1=1", "b/nut//1", 1000000000, api.ErrQty, ""},
		{"the most to none", "b/nut//1=0", "b/nut//1", 1000000000, api.OK, "b/nut//1=1000000000"},
		{"one less than the most to one", "b/nut//1=1", "b/nut//1", 999999999, api.OK, "b/nut//1=1000000000"},
		{"beyond the greatest already", "b/nut//1=1000000001", "b/nut//1", 1, api.ErrQty, ""},
		{"the greatest number there is", "b/nut//1=9223372036854775807", "b/nut//1", 1, api.ErrQty, ""},
		{"the greatest number there is, and the most", "b/nut//1=9223372036854775807", "b/nut//1", 1000000000, api.ErrQty, ""},
		{"each quant of an item by itself", "a/nut//1=1000000000 b/nut//1=5 c/nut//1=1000000000", "b/nut//1", 999999995, api.OK, "a/nut//1=1000000000 b/nut//1=1000000000 c/nut//1=1000000000"},

		// Quantities and held ones that commands do not make.
		{"none of it", "b/nut//1=0", "b/nut//1", 3, api.OK, "b/nut//1=3"},
		{"none of it, but something held", "b/nut//1=0:2", "b/nut//1", 3, api.OK, "b/nut//1=3:2"},
		{"less than none", "b/nut//1=-5:2", "b/nut//1", 3, api.OK, "b/nut//1=-2:2"},
		{"less than none, and then none", "a/nut//1=1 b/nut//1=-5:2 c/nut//1=1", "b/nut//1", 5, api.OK, "a/nut//1=1 c/nut//1=1"},
		{"less than none, and then one", "b/nut//1=-5:2", "b/nut//1", 6, api.OK, "b/nut//1=1:2"},
		{"the least number there is", "b/nut//1=-9223372036854775808", "b/nut//1", 3, api.OK, "b/nut//1=-9223372036854775805"},
		{"held beyond the quantity", "b/nut//1=5:9", "b/nut//1", 3, api.OK, "b/nut//1=8:9"},
		{"less than nothing held", "b/nut//1=5:-9", "b/nut//1", 3, api.OK, "b/nut//1=8:-9"},
		{"the greatest number held", "b/nut//1=5:9223372036854775807", "b/nut//1", 3, api.OK, "b/nut//1=8:9223372036854775807"},

		// Keys that differ in one field, and where a new one stands.
		{"another bin ahead", "b/nut/7/1=5", "a/nut/7/1", 3, api.OK, "a/nut/7/1=3 b/nut/7/1=5"},
		{"another bin behind", "b/nut/7/1=5", "c/nut/7/1", 3, api.OK, "b/nut/7/1=5 c/nut/7/1=3"},
		{"another item ahead", "b/nut/7/1=5", "b/bolt/7/1", 3, api.OK, "b/bolt/7/1=3 b/nut/7/1=5"},
		{"another item behind", "b/nut/7/1=5", "b/oil/7/1", 3, api.OK, "b/nut/7/1=5 b/oil/7/1=3"},
		{"another lot ahead", "b/nut/7/1=5", "b/nut/6/1", 3, api.OK, "b/nut/6/1=3 b/nut/7/1=5"},
		{"another lot behind", "b/nut/7/1=5", "b/nut/8/1", 3, api.OK, "b/nut/7/1=5 b/nut/8/1=3"},
		{"no lot", "b/nut/7/1=5", "b/nut//1", 3, api.OK, "b/nut//1=3 b/nut/7/1=5"},
		{"another status ahead", "b/nut/7/2=5", "b/nut/7/1", 3, api.OK, "b/nut/7/1=3 b/nut/7/2=5"},
		{"another status behind", "b/nut/7/2=5", "b/nut/7/3", 3, api.OK, "b/nut/7/2=5 b/nut/7/3=3"},
		{"lots as texts", "b/nut/9/1=5", "b/nut/10/1", 3, api.OK, "b/nut/10/1=3 b/nut/9/1=5"},
		{"statuses as numbers", "b/nut//-9=1 b/nut//9=5", "b/nut//10", 3, api.OK, "b/nut//-9=1 b/nut//9=5 b/nut//10=3"},
		{"a negative status", "b/nut//-9=1 b/nut//9=5", "b/nut//-10", 3, api.OK, "b/nut//-10=3 b/nut//-9=1 b/nut//9=5"},
		{"the bin ahead of the item", "a/oil/7/1=5 c/bolt/7/1=5", "b/nut/7/1", 3, api.OK, "a/oil/7/1=5 b/nut/7/1=3 c/bolt/7/1=5"},
		{"the item ahead of the lot", "b/bolt/9/1=5 b/oil/1/1=5", "b/nut/7/1", 3, api.OK, "b/bolt/9/1=5 b/nut/7/1=3 b/oil/1/1=5"},
		{"the lot ahead of the status", "b/nut/6/3=5 b/nut/8/1=5", "b/nut/7/2", 3, api.OK, "b/nut/6/3=5 b/nut/7/2=3 b/nut/8/1=5"},
		{"fields that join to the same text", "b/nut//1=5", "bn/ut//1", 3, api.OK, "b/nut//1=5 bn/ut//1=3"},

		// Lists in no order, or with a key twice.
		{"in no order, there", "c/nut//1=1 b/nut//1=5 a/nut//1=2", "b/nut//1", 3, api.OK, "c/nut//1=1 b/nut//1=8 a/nut//1=2"},
		{"in no order, there behind a greater one", "d/nut//1=1 a/nut//1=2 b/nut//1=5", "b/nut//1", 3, api.OK, "d/nut//1=1 a/nut//1=2 b/nut//1=8"},
		{"in no order, new ahead of the first that is greater", "a/nut//1=1 d/nut//1=2 c/nut//1=5", "b/nut//1", 3, api.OK, "a/nut//1=1 b/nut//1=3 d/nut//1=2 c/nut//1=5"},
		{"twice: the first", "b/nut//1=5:2 b/nut//1=9", "b/nut//1", 3, api.OK, "b/nut//1=8:2 b/nut//1=9"},
		{"twice, the first has the most", "b/nut//1=1000000000 b/nut//1=1", "b/nut//1", 1, api.ErrQty, ""},
		{"twice, the second has the most", "b/nut//1=1 b/nut//1=1000000000", "b/nut//1", 1, api.OK, "b/nut//1=2 b/nut//1=1000000000"},
		{"twice, and then none of the first", "b/nut//1=-3 a/nut//1=1 b/nut//1=-3", "b/nut//1", 3, api.OK, "a/nut//1=1 b/nut//1=-3"},

		// Nothing is asked of a key's fields, nor of its bin.
		{"no texts and no status", "", "///0", 3, api.OK, "///0=3"},
		{"a status that is none", "", "b/nut//99", 3, api.OK, "b/nut//99=3"},
		{"a bin that is counted, and full", "", "other/other//1", 3, api.OK, "other/other//1=3"},
	})
}

// TestTake: P12.3, each error, its edges, and a quant that is taken whole.
func TestTake(t *testing.T) {
	changes(t, Take, []change{
		{"some", "b/nut//1=5", "b/nut//1", 3, api.OK, "b/nut//1=2"},
		{"all but one", "b/nut//1=5", "b/nut//1", 4, api.OK, "b/nut//1=1"},
		{"all", "b/nut//1=5", "b/nut//1", 5, api.OK, ""},
		{"all, beside others", "a/nut//1=1 b/nut//1=5 c/nut//1=2:1", "b/nut//1", 5, api.OK, "a/nut//1=1 c/nut//1=2:1"},
		{"the only one", "b/nut//1=1", "b/nut//1", 1, api.OK, ""},
		{"one too many", "b/nut//1=5", "b/nut//1", 6, api.ErrShort, ""},
		{"the most", "b/nut//1=1000000000", "b/nut//1", 1000000000, api.OK, ""},
		{"the most of one less", "b/nut//1=999999999", "b/nut//1", 1000000000, api.ErrShort, ""},
		{"the most of one more", "b/nut//1=1000000001", "b/nut//1", 1000000000, api.OK, "b/nut//1=1"},

		{"all that is free", "b/nut//1=5:2", "b/nut//1", 3, api.OK, "b/nut//1=2:2"},
		{"less than is free", "b/nut//1=5:2", "b/nut//1", 2, api.OK, "b/nut//1=3:2"},
		{"one more than is free", "b/nut//1=5:2", "b/nut//1", 4, api.ErrHeld, ""},
		{"all, though some is held", "b/nut//1=5:2", "b/nut//1", 5, api.ErrHeld, ""},
		{"all, though one is held", "b/nut//1=5:1", "b/nut//1", 5, api.ErrHeld, ""},
		{"one where all is held", "b/nut//1=5:5", "b/nut//1", 1, api.ErrHeld, ""},
		{"one where all but one is held", "b/nut//1=5:4", "b/nut//1", 1, api.OK, "b/nut//1=4:4"},
		{"too many, and held", "b/nut//1=5:2", "b/nut//1", 6, api.ErrShort, ""},
		{"too many, and all held", "b/nut//1=5:5", "b/nut//1", 6, api.ErrShort, ""},

		// Quantities and held ones that commands do not make.
		{"none of it", "b/nut//1=0", "b/nut//1", 1, api.ErrShort, ""},
		{"less than none", "b/nut//1=-5", "b/nut//1", 1, api.ErrShort, ""},
		{"less than none, and less held", "b/nut//1=-5:-9", "b/nut//1", 1, api.ErrShort, ""},
		{"the least number there is", "b/nut//1=-9223372036854775808", "b/nut//1", 1000000000, api.ErrShort, ""},
		{"the greatest number there is", "b/nut//1=9223372036854775807", "b/nut//1", 1000000000, api.OK, "b/nut//1=9223372035854775807"},
		{"held beyond the quantity", "b/nut//1=5:9", "b/nut//1", 1, api.ErrHeld, ""},
		{"less than nothing held", "b/nut//1=5:-2", "b/nut//1", 4, api.OK, "b/nut//1=1:-2"},
		{"less than nothing held, and all", "b/nut//1=5:-2", "b/nut//1", 5, api.OK, ""},
		{"less than nothing held, and too many", "b/nut//1=5:-2", "b/nut//1", 6, api.ErrShort, ""},
		{"what is free is the greatest number", "b/nut//1=5:-9223372036854775802", "b/nut//1", 5, api.OK, ""},
		{"what is free wraps around to the least", "b/nut//1=5:-9223372036854775803", "b/nut//1", 1, api.ErrHeld, ""},
		{"what is free wraps around from the least", "b/nut//1=9223372036854775807:-1", "b/nut//1", 1, api.ErrHeld, ""},
		{"the least number held", "b/nut//1=5:-9223372036854775808", "b/nut//1", 1, api.ErrHeld, ""},
		{"the greatest number held", "b/nut//1=5:9223372036854775807", "b/nut//1", 1, api.ErrHeld, ""},
		{"the greatest number there is, all held but the most", "b/nut//1=9223372036854775807:9223372035854775807", "b/nut//1", 1000000000, api.OK, "b/nut//1=9223372035854775807:9223372035854775807"},

		// Lists in no order, or with a key twice.
		{"in no order", "c/nut//1=1 b/nut//1=5 a/nut//1=2", "a/nut//1", 1, api.OK, "c/nut//1=1 b/nut//1=5 a/nut//1=1"},
		{"in no order, all", "c/nut//1=1 b/nut//1=5 a/nut//1=2", "b/nut//1", 5, api.OK, "c/nut//1=1 a/nut//1=2"},
		{"twice: the first", "b/nut//1=5 b/nut//1=9", "b/nut//1", 3, api.OK, "b/nut//1=2 b/nut//1=9"},
		{"twice: all of the first", "b/nut//1=5 a/nut//1=1 b/nut//1=9:2", "b/nut//1", 5, api.OK, "a/nut//1=1 b/nut//1=9:2"},
		{"twice: the first has too few", "b/nut//1=5 b/nut//1=9", "b/nut//1", 6, api.ErrShort, ""},
		{"twice: of the first too much is held", "b/nut//1=5:5 b/nut//1=9", "b/nut//1", 1, api.ErrHeld, ""},
		{"twice: all of the second is held", "b/nut//1=5 b/nut//1=9:9", "b/nut//1", 4, api.OK, "b/nut//1=1 b/nut//1=9:9"},

		// What is not there.
		{"nothing there", "", "b/nut//1", 1, api.ErrNone, ""},
		{"another bin", "a/nut/7/1=5", "b/nut/7/1", 1, api.ErrNone, ""},
		{"another item", "b/bolt/7/1=5", "b/nut/7/1", 1, api.ErrNone, ""},
		{"another lot", "b/nut/6/1=5", "b/nut/7/1", 1, api.ErrNone, ""},
		{"another status", "b/nut/7/2=5", "b/nut/7/1", 1, api.ErrNone, ""},
		{"empty texts", "b/nut/7/1=5", "///1", 1, api.ErrNone, ""},
		{"not there, and as many as there are", "a/nut/7/1=5", "b/nut/7/1", 1000000000, api.ErrNone, ""},
		{"among those that differ in one field", "a/nut/7/1=1 b/bolt/7/1=2 b/nut/6/1=3 b/nut/7/1=4 b/nut/7/2=5", "b/nut/7/1", 4, api.OK, "a/nut/7/1=1 b/bolt/7/1=2 b/nut/6/1=3 b/nut/7/2=5"},

		// Nothing is asked of a key's fields, nor of its bin.
		{"no texts and no status", "///0=5", "///0", 3, api.OK, "///0=2"},
		{"a status that is none", "b/nut//99=5", "b/nut//99", 5, api.OK, ""},
		{"a bin that is counted", "other/other//1=5", "other/other//1", 3, api.OK, "other/other//1=2"},
	})
}

// TestHold: P12.4, more and less, each error and its edges, and a quant of the quantity 0.
func TestHold(t *testing.T) {
	changes(t, Hold, []change{
		{"some", "b/nut//1=5", "b/nut//1", 3, api.OK, "b/nut//1=5:3"},
		{"more", "b/nut//1=5:2", "b/nut//1", 1, api.OK, "b/nut//1=5:3"},
		{"all that is free", "b/nut//1=5:2", "b/nut//1", 3, api.OK, "b/nut//1=5:5"},
		{"one more than is free", "b/nut//1=5:2", "b/nut//1", 4, api.ErrHeld, ""},
		{"all", "b/nut//1=5", "b/nut//1", 5, api.OK, "b/nut//1=5:5"},
		{"one too many", "b/nut//1=5", "b/nut//1", 6, api.ErrHeld, ""},
		{"one where all is held", "b/nut//1=5:5", "b/nut//1", 1, api.ErrHeld, ""},
		{"nothing", "b/nut//1=5:2", "b/nut//1", 0, api.OK, "b/nut//1=5:2"},
		{"nothing where all is held", "b/nut//1=5:5", "b/nut//1", 0, api.OK, "b/nut//1=5:5"},
		{"nothing where nothing is held", "b/nut//1=5", "b/nut//1", 0, api.OK, "b/nut//1=5"},
		{"one less", "b/nut//1=5:2", "b/nut//1", -1, api.OK, "b/nut//1=5:1"},
		{"down to nothing", "b/nut//1=5:2", "b/nut//1", -2, api.OK, "b/nut//1=5"},
		{"down to less than nothing", "b/nut//1=5:2", "b/nut//1", -3, api.ErrHeld, ""},
		{"less where nothing is held", "b/nut//1=5", "b/nut//1", -1, api.ErrHeld, ""},
		{"the most", "b/nut//1=1000000000", "b/nut//1", 1000000000, api.OK, "b/nut//1=1000000000:1000000000"},
		{"the most of one less", "b/nut//1=999999999", "b/nut//1", 1000000000, api.ErrHeld, ""},
		{"down by the most", "b/nut//1=1000000000:1000000000", "b/nut//1", -1000000000, api.OK, "b/nut//1=1000000000"},
		{"down by the most of one less", "b/nut//1=1000000000:999999999", "b/nut//1", -1000000000, api.ErrHeld, ""},

		// A quant with nothing of it is gone behind each call that is not refused.
		{"nothing of none", "b/nut//1=0", "b/nut//1", 0, api.OK, ""},
		{"nothing of none, beside others", "a/nut//1=1 b/nut//1=0 c/nut//1=2:1", "b/nut//1", 0, api.OK, "a/nut//1=1 c/nut//1=2:1"},
		{"one of none", "b/nut//1=0", "b/nut//1", 1, api.ErrHeld, ""},
		{"one less of none", "b/nut//1=0", "b/nut//1", -1, api.ErrHeld, ""},
		{"down to nothing of none", "b/nut//1=0:3", "b/nut//1", -3, api.OK, ""},
		{"down to more than none", "b/nut//1=0:3", "b/nut//1", -2, api.ErrHeld, ""},
		{"up to nothing of none", "b/nut//1=0:-3", "b/nut//1", 3, api.OK, ""},
		{"up to less than nothing of none", "b/nut//1=0:-3", "b/nut//1", 2, api.ErrHeld, ""},
		{"nothing of another", "a/nut//1=0 b/nut//1=5", "b/nut//1", 0, api.OK, "a/nut//1=0 b/nut//1=5"},

		// Quantities and held ones that commands do not make.
		{"held beyond the quantity, nothing", "b/nut//1=5:7", "b/nut//1", 0, api.ErrHeld, ""},
		{"held beyond the quantity, and still", "b/nut//1=5:7", "b/nut//1", -1, api.ErrHeld, ""},
		{"held beyond the quantity, and no more", "b/nut//1=5:7", "b/nut//1", -2, api.OK, "b/nut//1=5:5"},
		{"less than nothing held, and still", "b/nut//1=5:-3", "b/nut//1", 2, api.ErrHeld, ""},
		{"less than nothing held, and no more", "b/nut//1=5:-3", "b/nut//1", 3, api.OK, "b/nut//1=5"},
		{"less than nothing held, up to all", "b/nut//1=5:-3", "b/nut//1", 8, api.OK, "b/nut//1=5:5"},
		{"less than nothing held, up to one too many", "b/nut//1=5:-3", "b/nut//1", 9, api.ErrHeld, ""},
		{"less than none", "b/nut//1=-5", "b/nut//1", 0, api.ErrHeld, ""},
		{"less than none, as much held", "b/nut//1=-5:-5", "b/nut//1", 0, api.ErrHeld, ""},
		{"less than none, down to it", "b/nut//1=-5", "b/nut//1", -5, api.ErrHeld, ""},
		{"the greatest number there is", "b/nut//1=9223372036854775807", "b/nut//1", 1000000000, api.OK, "b/nut//1=9223372036854775807:1000000000"},
		{"what is free wraps around to the least", "b/nut//1=9223372036854775807:-1", "b/nut//1", 1, api.ErrHeld, ""},
		{"what is free wraps around to one", "b/nut//1=-9223372036854775808:9223372036854775807", "b/nut//1", 0, api.OK, "b/nut//1=-9223372036854775808:9223372036854775807"},
		{"what is held wraps around to the least", "b/nut//1=-9223372036854775808:9223372036854775807", "b/nut//1", 1, api.ErrHeld, ""},
		{"what is held falls to the least", "b/nut//1=5:-9223372036854775802", "b/nut//1", -6, api.ErrHeld, ""},
		{"what is held wraps around to the greatest", "b/nut//1=5:-9223372036854775802", "b/nut//1", -7, api.OK, "b/nut//1=5:9223372036854775807"},

		// Lists in no order, or with a key twice.
		{"in no order", "c/nut//1=1 b/nut//1=5 a/nut//1=2", "a/nut//1", 1, api.OK, "c/nut//1=1 b/nut//1=5 a/nut//1=2:1"},
		{"twice: the first", "b/nut//1=5 b/nut//1=9", "b/nut//1", 3, api.OK, "b/nut//1=5:3 b/nut//1=9"},
		{"twice: too much of the first", "b/nut//1=5 b/nut//1=9", "b/nut//1", 6, api.ErrHeld, ""},
		{"twice: less of the first", "b/nut//1=5 b/nut//1=9:9", "b/nut//1", -1, api.ErrHeld, ""},
		{"twice, none of the first", "b/nut//1=0 a/nut//1=1 b/nut//1=9:2", "b/nut//1", 0, api.OK, "a/nut//1=1 b/nut//1=9:2"},
		{"twice, none of the second", "b/nut//1=9:2 b/nut//1=0", "b/nut//1", 0, api.OK, "b/nut//1=9:2 b/nut//1=0"},

		// What is not there.
		{"nothing there", "", "b/nut//1", 1, api.ErrNone, ""},
		{"nothing there, and nothing", "", "b/nut//1", 0, api.ErrNone, ""},
		{"another bin", "a/nut/7/1=5", "b/nut/7/1", 1, api.ErrNone, ""},
		{"another item", "b/bolt/7/1=5", "b/nut/7/1", 1, api.ErrNone, ""},
		{"another lot", "b/nut/6/1=5", "b/nut/7/1", 1, api.ErrNone, ""},
		{"another status", "b/nut/7/2=5", "b/nut/7/1", 1, api.ErrNone, ""},
		{"empty texts", "b/nut/7/1=5", "///1", 1, api.ErrNone, ""},
		{"not there, and a number that may not be", "a/nut/7/1=5", "b/nut/7/1", 1000000001, api.ErrNone, ""},
		{"not there, and a negative number that may not be", "a/nut/7/1=5", "b/nut/7/1", -1000000001, api.ErrNone, ""},
		{"among those that differ in one field", "a/nut/7/1=1 b/bolt/7/1=2 b/nut/6/1=3 b/nut/7/1=4 b/nut/7/2=5", "b/nut/7/1", 4, api.OK, "a/nut/7/1=1 b/bolt/7/1=2 b/nut/6/1=3 b/nut/7/1=4:4 b/nut/7/2=5"},

		// Nothing is asked of a key's fields, nor of its bin.
		{"no texts and no status", "///0=5", "///0", 3, api.OK, "///0=5:3"},
		{"a status that is not free", "b/nut//3=5", "b/nut//3", 5, api.OK, "b/nut//3=5:5"},
		{"a bin that is counted", "other/other//1=5", "other/other//1", 3, api.OK, "other/other//1=5:3"},
	})
}

// TestRanges: P12.2 to P12.6, the edges of the numbers that may be put, taken, held, moved, and given another status.
func TestRanges(t *testing.T) {
	k := keyOf("b/nut//1")
	// So many stand there, and so many of these are held, that any number which may be goes through.
	h := laid("nut=0,0", "a=0,0 b=0,0", "b/nut//1=5000000000:2000000000")
	empty := laid("nut=0,0", "a=0,0 b=0,0", "")
	for _, c := range []struct {
		qty       int
		put, hold api.Errno
	}{
		{math.MinInt, api.ErrQty, api.ErrQty}, {-1 << 32, api.ErrQty, api.ErrQty}, {-1000000001, api.ErrQty, api.ErrQty},
		{-1000000000, api.ErrQty, api.OK}, {-999999999, api.ErrQty, api.OK}, {-1, api.ErrQty, api.OK}, {0, api.ErrQty, api.OK},
		{1, api.OK, api.OK}, {2, api.OK, api.OK}, {999999999, api.OK, api.OK}, {1000000000, api.OK, api.OK},
		{1000000001, api.ErrQty, api.ErrQty}, {1<<32 + 1, api.ErrQty, api.ErrQty}, {1 << 60, api.ErrQty, api.ErrQty}, {math.MaxInt, api.ErrQty, api.ErrQty},
	} {
		of := " of " + strconv.Itoa(c.qty)
		left := api.Quant{Key: k, Qty: 5000000000 - c.qty, Held: 2000000000}
		g, e := Put(empty, k, c.qty)
		outcome(t, "Put"+of, g, e, restocked(h, api.Quant{Key: k, Qty: c.qty}), c.put)
		g, e = Take(h, k, c.qty)
		outcome(t, "Take"+of, g, e, restocked(h, left), c.put)
		g, e = Hold(h, k, c.qty)
		outcome(t, "Hold"+of, g, e, restocked(h, api.Quant{Key: k, Qty: 5000000000, Held: 2000000000 + c.qty}), c.hold)
		g, e = Move(h, k, c.qty, "a")
		outcome(t, "Move"+of, g, e, restocked(h, api.Quant{Key: keyOf("a/nut//1"), Qty: c.qty}, left), c.put)
		g, e = Status(h, k, c.qty, api.Broken)
		outcome(t, "Status"+of, g, e, restocked(h, left, api.Quant{Key: keyOf("b/nut//3"), Qty: c.qty}), c.put)
		for _, gone := range []string{"b/nut//2", "///0"} {
			want := api.ErrNone
			if c.put != api.OK {
				want = c.put
			}
			g, e = Take(h, keyOf(gone), c.qty)
			outcome(t, "Take"+of+" "+gone, g, e, zero, want)
			g, e = Hold(h, keyOf(gone), c.qty)
			outcome(t, "Hold"+of+" "+gone, g, e, zero, api.ErrNone)
		}
	}
}

// crowd is n quants that rise, none of which a case is about.
func crowd(n int) []api.Quant {
	var l []api.Quant
	for i := range n {
		l = append(l, api.Quant{Key: api.Key{Bin: "crowd", Item: strconv.Itoa(1000 + i), Status: api.Free}, Qty: 1})
	}
	return l
}

// TestPutCrowd: P12.2, a house with as many quants as it may have, one fewer, and more; a quant that is there takes no further place.
func TestPutCrowd(t *testing.T) {
	for _, c := range []struct {
		n    int
		want api.Errno
	}{{0, api.OK}, {1, api.OK}, {254, api.OK}, {255, api.OK}, {256, api.ErrQuants}, {257, api.ErrQuants}, {300, api.ErrQuants}} {
		what := "Put into " + strconv.Itoa(c.n) + " quants"
		h := houseOf(nil, nil, crowd(c.n))
		ahead, behind := api.Quant{Key: keyOf("b/nut//1"), Qty: 3}, api.Quant{Key: keyOf("z/nut//1"), Qty: 3}
		g, e := Put(h, ahead.Key, 3)
		outcome(t, what+", ahead of all", g, e, restocked(h, append([]api.Quant{ahead}, crowd(c.n)...)...), c.want)
		g, e = Put(h, behind.Key, 3)
		outcome(t, what+", behind all", g, e, restocked(h, append(crowd(c.n), behind)...), c.want)
		g, e = Put(h, ahead.Key, 0)
		outcome(t, what+", of nothing", g, e, zero, api.ErrQty)
		for i, q := range h.Quants {
			want := crowd(c.n)
			want[i].Qty = 4
			g, e := Put(h, q.Key, 3)
			outcome(t, what+", of what is there", g, e, restocked(h, want...), api.OK)
			g, e = Put(h, q.Key, api.MaxQty)
			outcome(t, what+", of what is there, and too many", g, e, zero, api.ErrQty)
		}
	}
}
