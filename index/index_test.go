package index

import (
	"slices"
	"strconv"
	"strings"
	"testing"

	"stevedore/api"
)

// number is a number that a test wrote out; none is 0.
func number(s string) int {
	if s == "" {
		return 0
	}
	n, err := strconv.Atoi(s)
	if err != nil {
		panic(s)
	}
	return n
}

// listOf makes a list of words.
func listOf[T any](text string, one func(w string) T) []T {
	var l []T
	for _, w := range strings.Fields(text) {
		l = append(l, one(w))
	}
	return l
}

// cut takes the mark and what is behind it off a word; without the mark it is the usual.
func cut(w, mark, usual string) (string, int) {
	w, n, found := strings.Cut(w, mark)
	if !found {
		n = usual
	}
	return w, number(n)
}

// lotOf makes a lot of a word like "nut/a=30": an item, a code and a day.
func lotOf(w string) api.Lot {
	w, day := cut(w, "=", "")
	item, code, _ := strings.Cut(w, "/")
	return api.Lot{Item: item, Code: code, Expiry: day}
}

// zoneOf makes a zone of a word like "z/s": a code and a site.
func zoneOf(w string) api.Zone {
	code, site, _ := strings.Cut(w, "/")
	return api.Zone{Code: code, Site: site}
}

// binOf makes a shelf of a word like "b1/z": a code and a zone. With ! behind it, it is frozen; with # and a number, it is of that kind.
func binOf(w string) api.Bin {
	w, frozen := strings.CutSuffix(w, "!")
	w, kind := cut(w, "#", "1")
	code, zone, _ := strings.Cut(w, "/")
	return api.Bin{Code: code, Zone: zone, Kind: kind, Aisle: 5, Place: 6, Volume: 7, Weight: 8, Frozen: frozen}
}

// keyOf makes a key of a word like "b1/nut/a": a bin, an item and a lot. With # and a number behind it, it is of that status; it is Free otherwise.
func keyOf(w string) api.Key {
	w, status := cut(w, "#", "1")
	f := strings.Split(w, "/")
	return api.Key{Bin: f[0], Item: f[1], Lot: f[2], Status: status}
}

// quantOf makes a quant of a word like "b1/nut/a=5,2": a key, how much, and how much of that is held.
func quantOf(w string) api.Quant {
	key, both, _ := strings.Cut(w, "=")
	qty, held := cut(both, ",", "")
	return api.Quant{Key: keyOf(key), Qty: number(qty), Held: held}
}

// takeOf makes a take of a word like "b1/nut/a=5": a key, and how much is taken.
func takeOf(w string) api.Take {
	key, n := cut(w, "=", "")
	return api.Take{Key: keyOf(key), Qty: n}
}

// words are the lists of a house, in words.
type words struct{ lots, zones, bins, quants string }

// usual is the house of the document's example, and more of the item at another site and in bins of other kinds.
func usual() words {
	return words{
		lots:   "nut/a=30 nut/b nut/c=9",
		zones:  "y/t z/s",
		bins:   "b1/z b2/z b3/z c1/y d1/z#2 k1/z#3 p1/z#4",
		quants: "b1/nut/b=4 b2/nut/a=5 b3/nut/c=3,2 c1/nut/c=50 d1/nut/c=60 k1/nut/c=70 p1/nut/c=80",
	}
}

// house is the house of words, with something in each other list.
func (w words) house() api.House {
	k := api.Key{Bin: "b2", Item: "nut", Lot: "a", Status: api.Free}
	return api.House{
		Items:   []api.Item{{Code: "nut", Lots: true}},
		Lots:    listOf(w.lots, lotOf),
		Zones:   listOf(w.zones, zoneOf),
		Bins:    listOf(w.bins, binOf),
		Quants:  listOf(w.quants, quantOf),
		Rules:   []api.Rule{{Item: "nut", Zone: "z", Rank: 1}},
		Notices: []api.Notice{{Code: "notice", Site: "s"}},
		Orders:  []api.Order{{Code: "order", Site: "s"}},
		Claims:  []api.Claim{{Order: "order", Line: 1, Key: k, Qty: 3, Task: 7}},
		Tasks:   []api.Task{{Number: 7, Kind: api.Pick, Order: "order", From: k, To: "k1", Qty: 3}},
		Parcels: []api.Parcel{{Bin: "p1", Order: "order"}},
		Sent:    []api.Sent{{Order: "order", Item: "nut", Lot: "a", Qty: 2, Back: 1}},
		Counted: []api.Counted{{Key: k, Qty: 4}},
		Totals:  []api.Total{{Item: "nut", Lot: "a", In: 6, Out: 2}}, LastTask: 7,
	}
}

// with is the house of words with other quants.
func (w words) with(quants string) api.House {
	w.quants = quants
	return w.house()
}

// took checks takes.
func took(t *testing.T, what string, got, want []api.Take) {
	t.Helper()
	if !slices.Equal(got, want) {
		t.Errorf("%s = %+v, want %+v", what, got, want)
	}
}

// sumOf is how much is taken.
func sumOf(l []api.Take) int {
	sum := 0
	for _, x := range l {
		sum += x.Qty
	}
	return sum
}

// following is an index that follows some houses, one behind the other.
func following(houses ...api.House) *Index {
	x := New()
	for _, h := range houses {
		x.Follow(h)
	}
	return x
}

// picks checks what Naive and indexes that come to the house in several ways answer: takes, in words.
func picks(t *testing.T, why string, h api.House, site, item string, qty int, want string) {
	t.Helper()
	l := listOf(want, takeOf)
	what := why + ": " + strconv.Itoa(qty) + " of " + strconv.Quote(item) + " at " + strconv.Quote(site)
	took(t, what+": Naive", Naive(h, site, item, qty), l)
	took(t, what+": Pick", following(h).Pick(site, item, qty), l)
	took(t, what+": Pick behind the same house", following(h, h).Pick(site, item, qty), l)
	took(t, what+": Pick behind another house", following(usual().house(), h).Pick(site, item, qty), l)
	took(t, what+": Pick behind a house and an empty one", following(usual().house(), api.House{}, h).Pick(site, item, qty), l)
	var x Index
	x.Follow(h)
	took(t, what+": Pick of an index that New did not make", x.Pick(site, item, qty), l)
}

// opens checks what Open answers, and that just so much is taken if all is wanted.
func opens(t *testing.T, why string, h api.House, site, item string, want int) {
	t.Helper()
	if n := Open(h, site, item); n != want {
		t.Errorf("%s: Open of %q at %q = %d, want %d", why, item, site, n, want)
	}
	if n := sumOf(Naive(h, site, item, 1<<62)); n != want {
		t.Errorf("%s: %d of %q are taken at %q, want %d", why, n, item, site, want)
	}
}

// TestExamples: the document's examples.
func TestExamples(t *testing.T) {
	for _, h := range []api.House{usual().house(), usual().with("b1/nut/b=4 b2/nut/a=5 b3/nut/c=3,2")} {
		picks(t, "the example", h, "s", "nut", 4, "b3/nut/c=1 b2/nut/a=3")
		picks(t, "the example", h, "s", "nut", 20, "b3/nut/c=1 b2/nut/a=5 b1/nut/b=4")
		opens(t, "the example", h, "s", "nut", 10)
	}
}

// TestNothing: P15.2, a new index is that of the empty house, and so is one that follows it; a nil one is so for ever.
func TestNothing(t *testing.T) {
	var none *Index
	if New() == nil {
		t.Fatal("New answers nil")
	}
	for _, qty := range []int{-1 << 63, -1, 0, 1, 5, 1<<63 - 1} {
		for _, site := range []string{"", "s", "t"} {
			for _, item := range []string{"", "nut", "pin"} {
				took(t, "Naive of an empty house", Naive(api.House{}, site, item, qty), nil)
				took(t, "Pick of a new index", New().Pick(site, item, qty), nil)
				took(t, "Pick of the zero index", new(Index).Pick(site, item, qty), nil)
				took(t, "Pick of the index of an empty house", following(api.House{}).Pick(site, item, qty), nil)
				took(t, "Pick of a house that is empty now", following(usual().house(), api.House{}).Pick(site, item, qty), nil)
				took(t, "Pick of nil", none.Pick(site, item, qty), nil)
				none.Follow(usual().house())
				took(t, "Pick of nil that follows", none.Pick(site, item, qty), nil)
				opens(t, "an empty house", api.House{}, site, item, 0)
			}
		}
	}
	one, other := New(), New()
	one.Follow(usual().house())
	took(t, "Pick of another new index", other.Pick("s", "nut", 1), nil)
	took(t, "Pick of a new index behind another", New().Pick("s", "nut", 1), nil)
}

// TestQty: P15.1 and P15.3, quantities about each edge: what is open at s is 1, 5 and 4, in this order.
func TestQty(t *testing.T) {
	h := usual().house()
	for _, c := range []struct {
		qty  int
		want string
	}{
		{-1 << 63, ""},
		{-1000000000, ""},
		{-10, ""},
		{-1, ""},
		{0, ""},
		{1, "b3/nut/c=1"},
		{2, "b3/nut/c=1 b2/nut/a=1"},
		{5, "b3/nut/c=1 b2/nut/a=4"},
		{6, "b3/nut/c=1 b2/nut/a=5"},
		{7, "b3/nut/c=1 b2/nut/a=5 b1/nut/b=1"},
		{9, "b3/nut/c=1 b2/nut/a=5 b1/nut/b=3"},
		{10, "b3/nut/c=1 b2/nut/a=5 b1/nut/b=4"},
		{11, "b3/nut/c=1 b2/nut/a=5 b1/nut/b=4"},
		{1000000000, "b3/nut/c=1 b2/nut/a=5 b1/nut/b=4"},
		{1000000001, "b3/nut/c=1 b2/nut/a=5 b1/nut/b=4"},
		{1<<63 - 1, "b3/nut/c=1 b2/nut/a=5 b1/nut/b=4"},
	} {
		picks(t, "the usual house", h, "s", "nut", c.qty, c.want)
	}
	for _, c := range []struct {
		qty  int
		want string
	}{{0, ""}, {1, "c1/nut/c=1"}, {49, "c1/nut/c=49"}, {50, "c1/nut/c=50"}, {51, "c1/nut/c=50"}} {
		picks(t, "one quant", h, "t", "nut", c.qty, c.want)
	}
	opens(t, "the usual house", h, "t", "nut", 50)
}

// TestFree: P15.1, what is free of a quant is its Qty without what is held of it, and it must be above 0.
func TestFree(t *testing.T) {
	for _, c := range []struct {
		why, both string
		free      int
	}{
		{"nothing held", "5", 5},
		{"one of one", "1", 1},
		{"some held", "5,2", 3},
		{"all but one held", "5,4", 1},
		{"all held", "5,5", 0},
		{"one more held than there is", "5,6", 0},
		{"nothing there", "0", 0},
		{"nothing there, and one held", "0,1", 0},
		{"less than nothing there", "-3", 0},
		{"less than nothing held", "5,-2", 7},
		{"less than nothing of both", "-3,-5", 2},
		{"less than nothing of both, and alike", "-3,-3", 0},
		{"the most of a quant", "1000000000", 1000000000},
		{"the most of a quant, all but one held", "1000000000,999999999", 1},
		{"more than the most of a quant", "1000000001", 1000000001},
		{"a difference that wraps around to the greatest", "-9223372036854775808,1", 1<<63 - 1},
		{"a difference that wraps around below 0", "9223372036854775807,-1", 0},
		{"a difference that wraps around to the least", "0,-9223372036854775808", 0},
		{"the greatest", "9223372036854775807", 1<<63 - 1},
	} {
		h := usual().with("b1/nut/a=" + c.both)
		if n := Open(h, "s", "nut"); n != c.free {
			t.Errorf("%s: Open = %d, want %d", c.why, n, c.free)
		}
		for _, qty := range []int{0, 1, 2, 1000000000, 1<<63 - 1} {
			want := ""
			if n := min(qty, c.free); n > 0 {
				want = "b1/nut/a=" + strconv.Itoa(n)
			}
			picks(t, c.why, h, "s", "nut", qty, want)
		}
	}
}

// TestOpenWraps: R4, what is open in all is a sum that wraps around; it bounds no take.
func TestOpenWraps(t *testing.T) {
	h := usual().with("b1/nut/a=9223372036854775807 b2/nut/a=9223372036854775807 b3/nut/a=3")
	if n := Open(h, "s", "nut"); n != 1 {
		t.Errorf("Open = %d, want 1", n)
	}
	picks(t, "a sum that wraps around", h, "s", "nut", 4, "b1/nut/a=4")
	picks(t, "a sum that wraps around", h, "s", "nut", 1<<63-1, "b1/nut/a=9223372036854775807")
}

// TestEligible: P15.1, which quants are eligible; there are 7 nuts of b9 behind, which always are.
func TestEligible(t *testing.T) {
	for _, c := range []struct {
		why, lots, zones, bins, quant string
		is                            bool
	}{
		{"a shelf of the site", "nut/a=5", "z/s", "b/z", "b/nut/a=2", true},
		{"Free", "", "z/s", "b/z", "b/nut/a#1=2", true},
		{"Hold", "", "z/s", "b/z", "b/nut/a#2=2", false},
		{"Broken", "", "z/s", "b/z", "b/nut/a#3=2", false},
		{"a status of 0", "", "z/s", "b/z", "b/nut/a#0=2", false},
		{"a status of 4", "", "z/s", "b/z", "b/nut/a#4=2", false},
		{"a status below 0", "", "z/s", "b/z", "b/nut/a#-1=2", false},
		{"a status that is greater by 2^32", "", "z/s", "b/z", "b/nut/a#4294967297=2", false},

		{"a dock", "", "z/s", "b/z#2", "b/nut/a=2", false},
		{"a cart", "", "z/s", "b/z#3", "b/nut/a=2", false},
		{"a carton", "", "z/s", "b/z#4", "b/nut/a=2", false},
		{"a kind of 0", "", "z/s", "b/z#0", "b/nut/a=2", false},
		{"a kind of 5", "", "z/s", "b/z#5", "b/nut/a=2", false},
		{"a kind below 0", "", "z/s", "b/z#-1", "b/nut/a=2", false},
		{"a frozen shelf", "", "z/s", "b/z!", "b/nut/a=2", false},
		{"a frozen dock", "", "z/s", "b/z#2!", "b/nut/a=2", false},
		{"a bin that is not there", "", "z/s", "c/z", "b/nut/a=2", false},
		{"a bin of another case", "", "z/s", "B/z", "b/nut/a=2", false},
		{"a zone's code as a bin", "", "z/s b/s", "c/z", "b/nut/a=2", false},

		{"another site", "", "z/t", "b/z", "b/nut/a=2", false},
		{"a site of another case", "", "z/S", "b/z", "b/nut/a=2", false},
		{"a site that begins alike", "", "z/ss", "b/z", "b/nut/a=2", false},
		{"a site without a name", "", "z/", "b/z", "b/nut/a=2", false},
		{"a zone that is not there", "", "y/s", "b/z", "b/nut/a=2", false},
		{"another zone of the site", "", "y/s z/s", "b/y", "b/nut/a=2", true},

		{"a lot that is not there", "nut/b=5", "z/s", "b/z", "b/nut/a=2", true},
		{"no lot", "nut/b=5", "z/s", "b/z", "b/nut/=2", true},
		{"a lot without a day", "nut/a", "z/s", "b/z", "b/nut/a=2", true},
		{"a lot that expired long ago", "nut/a=-5", "z/s", "b/z", "b/nut/a=2", true},
		{"all held", "", "z/s", "b/z", "b/nut/a=2,2", false},
		{"another item", "", "z/s", "b/z", "b/pin/a=2", false},
		{"an item of another case", "", "z/s", "b/z", "b/Nut/a=2", false},
		{"an item that begins alike", "", "z/s", "b/z", "b/nuts/a=2", false},
		{"an item without a name", "", "z/s", "b/z", "b//nut=2", false},

		{"a bin twice, the first a shelf", "", "z/s", "b/z b/z#2", "b/nut/a=2", true},
		{"a bin twice, the first a dock", "", "z/s", "b/z#2 b/z", "b/nut/a=2", false},
		{"a bin twice, the first frozen", "", "z/s", "b/z! b/z", "b/nut/a=2", false},
		{"a bin twice, the second frozen", "", "z/s", "b/z b/z!", "b/nut/a=2", true},
		{"a bin twice, the first of another site", "", "y/t z/s", "b/y b/z", "b/nut/a=2", false},
		{"a bin twice, the second of another site", "", "y/t z/s", "b/z b/y", "b/nut/a=2", true},
		{"a zone twice, the first of another site", "", "z/t z/s", "b/z", "b/nut/a=2", false},
		{"a zone twice, the second of another site", "", "z/s z/t", "b/z", "b/nut/a=2", true},
		{"bins and zones in no order", "", "z/s y/t x/s", "d/x b/z a/y", "b/nut/a=2", true},
	} {
		w := words{c.lots + " nut/last=100000", c.zones + " zone/s", c.bins + " b9/zone", "b9/nut/last=7 " + c.quant}
		// What is of no lot, or of one without a day, comes behind the last day.
		behind := strings.Contains(c.quant, "/nut/=") || !strings.Contains(c.lots, "nut/a=")
		want, open := "b9/nut/last=7", 7
		switch {
		case c.is && behind:
			want, open = "b9/nut/last=7 "+c.quant, 9
		case c.is:
			want, open = c.quant+" b9/nut/last=7", 9
		}
		picks(t, c.why, w.house(), "s", "nut", 100, want)
		opens(t, c.why, w.house(), "s", "nut", open)
	}
}

// TestOrder: P15.1, by day, then by lot, then by bin, then as they stand in the house.
func TestOrder(t *testing.T) {
	for _, c := range []struct{ why, lots, quants, want string }{
		{"two days", "nut/a=20 nut/b=10", "b1/nut/a=1 b1/nut/b=2", "b1/nut/b=2 b1/nut/a=1"},
		{"days as numbers", "nut/a=100 nut/b=20 nut/c=3", "b1/nut/a=1 b1/nut/b=2 b1/nut/c=3", "b1/nut/c=3 b1/nut/b=2 b1/nut/a=1"},
		{"the edges of days", "nut/a nut/b=100000 nut/c=1 nut/d=99999", "b1/nut/a=1 b1/nut/b=2 b1/nut/c=3 b1/nut/d=4", "b1/nut/c=3 b1/nut/d=4 b1/nut/b=2 b1/nut/a=1"},
		{"the day ahead of the bin", "nut/a=20 nut/b=10", "b1/nut/a=1 b2/nut/b=2", "b2/nut/b=2 b1/nut/a=1"},
		{"the day ahead of how much there is", "nut/a=20 nut/b=10", "b1/nut/a=1000 b1/nut/b=1 b2/nut/a=1 b2/nut/b=1000", "b1/nut/b=1 b2/nut/b=1000 b1/nut/a=1000 b2/nut/a=1"},
		{"no day, and a lot that is not there", "nut/b nut/c=7", "b1/nut/a=1 b1/nut/b=2 b1/nut/c=3", "b1/nut/c=3 b1/nut/a=1 b1/nut/b=2"},
		{"a lot that is not there, behind one without a day", "nut/a nut/c=7", "b1/nut/a=1 b1/nut/b=2 b1/nut/c=3", "b1/nut/c=3 b1/nut/a=1 b1/nut/b=2"},
		{"the empty lot among those without a day", "nut/a", "b1/nut/a=1 b2/nut/=2", "b2/nut/=2 b1/nut/a=1"},
		{"an empty lot with a day", "nut/=9 nut/a=8 nut/b=10", "b1/nut/=1 b1/nut/a=2 b1/nut/b=3", "b1/nut/a=2 b1/nut/=1 b1/nut/b=3"},
		{"a day below 0", "nut/a=1 nut/b=-1", "b1/nut/a=1 b1/nut/b=2", "b1/nut/b=2 b1/nut/a=1"},
		{"a day behind all others", "nut/a=100002 nut/b=100001 nut/c", "b1/nut/a=1 b1/nut/b=2 b1/nut/c=3", "b1/nut/b=2 b1/nut/c=3 b1/nut/a=1"},
		{"days far apart", "nut/a=9223372036854775807 nut/b=-9223372036854775808 nut/c=1", "b1/nut/a=1 b1/nut/b=2 b1/nut/c=3", "b1/nut/b=2 b1/nut/c=3 b1/nut/a=1"},
		{"a lot twice, and the first counts", "nut/a=20 nut/b=10 nut/a=5", "b1/nut/a=1 b1/nut/b=2", "b1/nut/b=2 b1/nut/a=1"},
		{"a lot twice, the first without a day", "nut/a nut/b=10 nut/a=5", "b1/nut/a=1 b1/nut/b=2", "b1/nut/b=2 b1/nut/a=1"},
		{"a lot of another item", "pin/b=1 nut/a=20 nut/b=30", "b1/nut/a=1 b1/nut/b=2", "b1/nut/a=1 b1/nut/b=2"},
		{"a lot of another item alone", "pin/b=1 nut/a=20", "b1/nut/b=2 b1/nut/a=1", "b1/nut/a=1 b1/nut/b=2"},
		{"lots in no order", "nut/c=2 nut/a=3 nut/b=1", "b1/nut/a=1 b1/nut/b=2 b1/nut/c=3", "b1/nut/b=2 b1/nut/c=3 b1/nut/a=1"},

		{"equal days, two lots", "nut/a=9 nut/b=9", "b1/nut/b=2 b1/nut/a=1", "b1/nut/a=1 b1/nut/b=2"},
		{"equal days, the lot ahead of the bin", "nut/a=9 nut/b=9", "b1/nut/b=2 b2/nut/a=1", "b2/nut/a=1 b1/nut/b=2"},
		{"equal days, lots by bytes", "nut/b=9 nut/ab=9 nut/B=9 nut/a=9 nut/10=9 nut/9=9", "b1/nut/b=1 b1/nut/ab=2 b1/nut/B=3 b1/nut/a=4 b1/nut/10=5 b1/nut/9=6", "b1/nut/10=5 b1/nut/9=6 b1/nut/B=3 b1/nut/a=4 b1/nut/ab=2 b1/nut/b=1"},
		{"equal days, lots and bins that join to the same text", "nut/a=9 nut/ab=9", "b1/nut/ab=1 bb1/nut/a=2", "bb1/nut/a=2 b1/nut/ab=1"},
		{"equal days of a lot that is not there and one without", "nut/b", "b1/nut/b=1 b1/nut/a=2 b1/nut/c=3", "b1/nut/a=2 b1/nut/b=1 b1/nut/c=3"},

		{"equal lots, two bins", "nut/a=9", "b2/nut/a=1 b1/nut/a=2", "b1/nut/a=2 b2/nut/a=1"},
		{"equal lots, bins by bytes", "nut/a=9", "b2/nut/a=1 b10/nut/a=2 B1/nut/a=3 b1/nut/a=4", "B1/nut/a=3 b1/nut/a=4 b10/nut/a=2 b2/nut/a=1"},
		{"equal lots, not by what they hold, nor by zone, aisle or place", "nut/a=9", "b1/nut/a=9,8 b2/nut/a=1 b3/nut/a=5", "b1/nut/a=1 b2/nut/a=1 b3/nut/a=5"},

		{"alike in all", "nut/a=9", "b1/nut/a=1 b1/nut/a=2", "b1/nut/a=1 b1/nut/a=2"},
		{"alike in all, the greater first", "nut/a=9", "b1/nut/a=2 b1/nut/a=1", "b1/nut/a=2 b1/nut/a=1"},
		{"alike in how much as well", "nut/a=9", "b1/nut/a=2 b1/nut/a=2 b1/nut/a=2", "b1/nut/a=2 b1/nut/a=2 b1/nut/a=2"},
		{"alike in all, with others between", "nut/a=9 nut/b=3", "b1/nut/a=5 b2/nut/a=1 b1/nut/a=7 b1/nut/b=2 b1/nut/a=6", "b1/nut/b=2 b1/nut/a=5 b1/nut/a=7 b1/nut/a=6 b2/nut/a=1"},
		{"alike in all, one of them all held", "nut/a=9", "b1/nut/a=5 b1/nut/a=2,2 b1/nut/a=7", "b1/nut/a=5 b1/nut/a=7"},
		{"alike but for the status", "nut/a=9", "b1/nut/a#2=5 b1/nut/a=1 b1/nut/a#3=7", "b1/nut/a=1"},
		{"many that are alike", "nut/a=9", strings.Repeat("b2/nut/a=3 b1/nut/a=1 b1/nut/a=2 ", 20), strings.Repeat("b1/nut/a=1 b1/nut/a=2 ", 20) + strings.Repeat("b2/nut/a=3 ", 20)},

		{"quants in no order", "nut/a=2 nut/b=1 nut/c=2", "b3/nut/a=1 b1/pin/a=9 b1/nut/c=2 b2/nut/b=3 b1/nut/a=4 b9/nut/a=9 b1/nut/b=5", "b1/nut/b=5 b2/nut/b=3 b1/nut/a=4 b3/nut/a=1 b1/nut/c=2"},
	} {
		w := words{c.lots, "y/s z/s", "b1/z b2/y b3/z b10/z B1/z bb1/z", c.quants}
		picks(t, c.why, w.house(), "s", "nut", 1<<40, c.want)
		opens(t, c.why, w.house(), "s", "nut", sumOf(listOf(c.want, takeOf)))
		for qty := range 12 {
			picks(t, c.why, w.house(), "s", "nut", qty, cutOff(c.want, qty))
		}
	}
}

// cutOff is the beginning of some takes, in words, that is just so much.
func cutOff(takes string, qty int) string {
	out := ""
	for _, w := range strings.Fields(takes) {
		key, n := cut(w, "=", "")
		if n = min(n, qty); n > 0 {
			out += key + "=" + strconv.Itoa(n) + " "
		}
		qty -= n
	}
	return out
}

// TestWhoAsks: P15.1 and P15.2, items and sites that are there, that are not, and empty texts.
func TestWhoAsks(t *testing.T) {
	w := words{
		lots:   "nut/a=3 nut/b=2 pin/a=1 /a=1 /=2",
		zones:  "y/t z/s e/",
		bins:   "b1/z b2/y b3/e b4/gone b5/ /z",
		quants: "/nut/a=1 b1//=2 b1//a=3 b1/nut/=4 b1/nut/a=5 b1/pin/a=6 b2//a=7 b2/nut/b=8 b3/nut/a=9 b4/nut/b=10 b5/nut/a=11 gone/nut/a=12",
	}
	for _, c := range []struct {
		site, item string
		open       int
		want       string
	}{
		{"s", "nut", 10, "/nut/a=1 b1/nut/a=5 b1/nut/=4"},
		{"s", "pin", 6, "b1/pin/a=6"},
		{"t", "nut", 8, "b2/nut/b=8"},
		{"t", "pin", 0, ""},
		{"", "nut", 30, "b4/nut/b=10 b3/nut/a=9 b5/nut/a=11"},
		{"s", "", 5, "b1//a=3 b1//=2"},
		{"t", "", 7, "b2//a=7"},
		{"", "", 0, ""},
		{"", "pin", 0, ""},
		{"s", "bolt", 0, ""},
		{"s", "nu", 0, ""},
		{"s", "nuts", 0, ""},
		{"s", "Nut", 0, ""},
		{"s", "nut ", 0, ""},
		{"s", "b1", 0, ""},
		{"s", strings.Repeat("nut", 200), 0, ""},
		{"gone", "nut", 0, ""},
		{"S", "nut", 0, ""},
		{"z", "nut", 0, ""},
		{"b1", "nut", 0, ""},
		{"\x00", "\xff", 0, ""},
		{"nut", "s", 0, ""},
	} {
		picks(t, "who asks", w.house(), c.site, c.item, 100, c.want)
		opens(t, "who asks", w.house(), c.site, c.item, c.open)
		picks(t, "who asks for one", w.house(), c.site, c.item, 1, cutOff(c.want, 1))
		picks(t, "who asks for none", w.house(), c.site, c.item, 0, "")
	}
}

// TestAnyTexts: P15.1 and P15.2, texts need not be names, and are compared byte by byte.
func TestAnyTexts(t *testing.T) {
	texts := []string{"", "\x00", " ", "a b", "z", "\x7f", "\x80", "é", "\xff", "\xff\x00", strings.Repeat("\xffx", 300)}
	for _, text := range texts {
		h := api.House{Zones: []api.Zone{{Code: text, Site: text}}}
		var byLot, byBin []api.Take
		for i, other := range texts {
			h.Bins = append(h.Bins, api.Bin{Code: other, Zone: text, Kind: api.Shelf})
			byLot = append(byLot, api.Take{Key: api.Key{Bin: text, Item: "lots", Lot: other, Status: api.Free}, Qty: i + 1})
			byBin = append(byBin, api.Take{Key: api.Key{Bin: other, Item: text, Lot: text, Status: api.Free}, Qty: i + 1})
		}
		for _, x := range slices.Backward(slices.Concat(byBin, byLot)) {
			h.Quants = append(h.Quants, api.Quant{Key: x.Key, Qty: x.Qty})
		}
		took(t, "Naive by lots", Naive(h, text, "lots", 1000), byLot)
		took(t, "Pick by lots", following(h).Pick(text, "lots", 1000), byLot)
		took(t, "Naive by bins", Naive(h, text, text, 1000), byBin)
		took(t, "Pick by bins", following(h).Pick(text, text, 1000), byBin)
	}
}

// TestSum: P15.3, what is taken is at most what is wanted and at most what is open, and all that is wanted if so much is open.
func TestSum(t *testing.T) {
	w := usual()
	w.quants += " b1/nut/a=1 b1/nut/a=2 b2/pin/a=3 b3/nut/a=1,1 b3/nut/x=6,2"
	for _, site := range []string{"s", "t", ""} {
		for _, item := range []string{"nut", "pin", ""} {
			h := w.house()
			open := Open(h, site, item)
			for qty := -3; qty < 90; qty++ {
				if n := sumOf(following(h).Pick(site, item, qty)); n != max(0, min(qty, open)) {
					t.Errorf("%d of %d %q are taken at %q where %d are open", n, qty, item, site, open)
				}
			}
		}
	}
}
