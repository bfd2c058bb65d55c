package route

import (
	"math"
	"slices"
	"strconv"
	"strings"
	"testing"

	"stevedore/api"
)

// Least and greatest numbers, as tests write them.
const (
	least    = "-9223372036854775808"
	greatest = "9223372036854775807"
)

// number is a number that a test wrote out.
func number(w string) int {
	n, err := strconv.Atoi(w)
	if err != nil {
		panic(w)
	}
	return n
}

// binOf makes a shelf of a word like "a/z/1/5": a code, a zone, an aisle and a place.
func binOf(w string) api.Bin {
	f := strings.Split(w, "/")
	if len(f) != 4 {
		panic(w)
	}
	return api.Bin{Code: f[0], Zone: f[1], Kind: api.Shelf, Aisle: number(f[2]), Place: number(f[3]), Volume: 9, Weight: 8}
}

// binsOf makes bins of words.
func binsOf(text string) []api.Bin {
	var l []api.Bin
	for _, w := range strings.Fields(text) {
		l = append(l, binOf(w))
	}
	return l
}

// houseOf is a house with bins, and with something in each other list.
func houseOf(bins []api.Bin) api.House {
	k := api.Key{Bin: "a", Item: "nut", Status: api.Free}
	lines := [api.MaxLines]api.Line{{Item: "nut", Asked: 9}}
	return api.House{
		Items: []api.Item{{Code: "nut"}}, Lots: []api.Lot{{Item: "nut", Code: "l"}}, Zones: []api.Zone{{Code: "z", Site: "s"}}, Bins: bins,
		Quants: []api.Quant{{Key: k, Qty: 9, Held: 2}}, Rules: []api.Rule{{Item: "nut", Zone: "z", Rank: 1}},
		Notices: []api.Notice{{Code: "n", Site: "s", Lines: lines}}, Orders: []api.Order{{Code: "o", Site: "s", Lines: lines}},
		Claims:  []api.Claim{{Order: "o", Key: k, Qty: 2}},
		Tasks:   []api.Task{{Number: 7, Kind: api.Pick, Order: "o", From: k, To: "c", Qty: 2}},
		Parcels: []api.Parcel{{Bin: "k", Order: "o"}}, Sent: []api.Sent{{Order: "o", Item: "nut", Qty: 2}},
		Counted: []api.Counted{{Key: k, Qty: 4}}, Totals: []api.Total{{Item: "nut", In: 9}}, LastTask: 7,
	}
}

// ahead checks what Ahead answers of two bins.
func ahead(t *testing.T, why string, a, b api.Bin, want bool) {
	t.Helper()
	if got := Ahead(a, b); got != want {
		t.Errorf("%s: Ahead of %+v and %+v = %v, want %v", why, a, b, got, want)
	}
}

// inLine checks Ahead of each two of some bins that stand in the order of the path, both ways round, and of each and itself.
func inLine(t *testing.T, why string, l []api.Bin) {
	t.Helper()
	for i, a := range l {
		for j, b := range l {
			ahead(t, why, a, b, i < j)
		}
	}
}

// TestAhead: P17.1, bins in the order of the path.
func TestAhead(t *testing.T) {
	for _, c := range []struct{ why, bins string }{
		{"no bins", ""},
		{"one", "a/z/1/5"},
		{"the document's example", "b/z/1/7 a/z/1/5 d/z/2/5 c/z/2/7"},
		{"other zones", "a/x/1/1 a/y/1/1 a/z/1/1"},
		{"zones byte by byte", "a//1/1 a/1/1/1 a/10/1/1 a/9/1/1 a/Z/1/1 a/_/1/1 a/z/1/1 a/zz/1/1 a/\xc3\xa9/1/1 a/\xff/1/1"},
		{"the zone ahead of all else", "z/y/9/9 m/y/10/8 c/z/1/7 a/z/2/0"},
		{"the zone ahead of the aisle", "a/y/9/1 a/z/1/1"},
		{"the zone ahead of the place", "a/y/2/9 a/z/2/1"},
		{"the zone ahead of the place in an odd aisle", "a/y/1/1 a/z/1/9"},
		{"the zone ahead of the code", "z/y/1/1 a/z/1/1"},
		{"other aisles", "a/z/0/1 a/z/1/1 a/z/2/1 a/z/3/1 a/z/9/1 a/z/10/1 a/z/99/1 a/z/998/1 a/z/999/1 a/z/1000/1"},
		{"the aisle ahead of the place", "a/z/2/9 a/z/3/0 a/z/4/9"},
		{"the aisle ahead of the place, from odd to even", "a/z/1/0 a/z/2/9 a/z/3/0"},
		{"the aisle ahead of the code", "c/z/1/1 b/z/2/1 a/z/3/1"},
		{"aisles below 0", "a/z/" + least + "/1 a/z/-3/1 a/z/-2/1 a/z/-1/1 a/z/0/1 a/z/1/1 a/z/" + greatest + "/1"},
		{"places of an aisle with an even number", "a/z/2/0 a/z/2/1 a/z/2/2 a/z/2/9 a/z/2/10 a/z/2/998 a/z/2/999 a/z/2/1000"},
		{"places of an aisle with an odd number", "a/z/1/1000 a/z/1/999 a/z/1/998 a/z/1/10 a/z/1/9 a/z/1/2 a/z/1/1 a/z/1/0"},
		{"the place ahead of the code", "c/z/2/1 b/z/2/2 a/z/2/3"},
		{"the place ahead of the code, in an odd aisle", "c/z/1/3 b/z/1/2 a/z/1/1"},
		{"the same place", "A/z/2/5 B/z/2/5 a/z/2/5 aa/z/2/5 b/z/2/5"},
		{"the same place of an odd aisle", "A/z/1/5 B/z/1/5 a/z/1/5 aa/z/1/5 b/z/1/5"},
		{"codes byte by byte", "/z/1/5 1/z/1/5 10/z/1/5 9/z/1/5 Z/z/1/5 _/z/1/5 z/z/1/5 zz/z/1/5 \xc3\xa9/z/1/5 \xff/z/1/5"},
		{"one code", "a/y/2/9 a/z/1/9 a/z/1/3 a/z/2/3 a/z/2/9"},
		{"a zone without bins between", "p/x/1/2 o/x/1/1 n/x/4/1 m/x/4/2 l/z/0/1 k/z/0/2 j/z/7/2 i/z/7/1 h/z/7/0"},
	} {
		inLine(t, c.why, binsOf(c.bins))
	}
}

// TestAisles: P17.1, an aisle is odd if its remainder is not 0, whatever its sign; its places may be any numbers.
func TestAisles(t *testing.T) {
	up := []string{least, "-9223372036854775807", "-1000", "-2", "-1", "0", "1", "2", "999", "9223372036854775806", greatest}
	for _, aisle := range []string{"0", "2", "-2", "4", "-4", "100", "998", "1000", "9223372036854775806", least} {
		inLine(t, "the even aisle "+aisle, placesOf(aisle, up))
	}
	down := slices.Clone(up)
	slices.Reverse(down)
	for _, aisle := range []string{"1", "-1", "3", "-3", "5", "-5", "99", "999", "1001", greatest, "-9223372036854775807"} {
		inLine(t, "the odd aisle "+aisle, placesOf(aisle, down))
	}
}

// placesOf makes a bin at each of some places of an aisle; the codes fall, and then rise.
func placesOf(aisle string, places []string) []api.Bin {
	var l []api.Bin
	for i, p := range places {
		l = append(l, binOf(strconv.Itoa((i-4)*(i-4))+"/z/"+aisle+"/"+p))
	}
	return l
}

// TestSamePlace: P17.1, neither of two bins with one code, zone, aisle and place precedes the other, whatever else they are.
func TestSamePlace(t *testing.T) {
	for _, w := range []string{"a/z/1/5", "a/z/2/5", "a/z/0/0", "//0/0", "a/z/-1/-1", "a/z/" + least + "/" + greatest, "a/z/" + greatest + "/" + least} {
		a := binOf(w)
		ahead(t, "a bin and itself", a, a, false)
		for why, b := range others(a) {
			ahead(t, why, a, b, false)
			ahead(t, why, b, a, false)
		}
	}
	ahead(t, "zero bins", api.Bin{}, api.Bin{}, false)
}

// others is a bin with one more thing that has no part in the order, for each such thing.
func others(x api.Bin) map[string]api.Bin {
	kind, volume, weight, frozen := x, x, x, x
	kind.Kind, volume.Volume, weight.Weight, frozen.Frozen = api.Dock, math.MaxInt, math.MinInt, true
	return map[string]api.Bin{"another kind": kind, "another volume": volume, "another weight": weight, "frozen": frozen}
}

// TestWhateverElse: P17.1, what is no zone, aisle, place or code has no part in the order.
func TestWhateverElse(t *testing.T) {
	for _, pair := range []string{"z/y/1/1 a/z/1/1", "z/z/1/1 a/z/2/1", "z/z/2/1 a/z/2/2", "z/z/1/2 a/z/1/1", "a/z/1/1 b/z/1/1"} {
		l := binsOf(pair)
		for why, a := range others(l[0]) {
			ahead(t, pair+": "+why, a, l[1], true)
			ahead(t, pair+": "+why, l[1], a, false)
		}
		for why, b := range others(l[1]) {
			ahead(t, pair+": "+why, l[0], b, true)
			ahead(t, pair+": "+why, b, l[0], false)
		}
	}
}
