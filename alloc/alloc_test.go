package alloc

import (
	"reflect"
	"slices"
	"strconv"
	"strings"
	"testing"

	"stevedore/api"
)

// zero is a house without anything: the one beside an error.
var zero api.House

// number is a number that a test wrote out; none is 0.
func number(s string) int {
	if s == "" {
		return 0
	}
	n, err := strconv.Atoi(s)
	if err != nil {
		panic(s)
	}
	return n
}

// numbers is n numbers of a text like "3,1"; those that are not there are 0.
func numbers(s string, n int) []int {
	l := make([]int, n)
	for i, w := range strings.Split(s, ",") {
		l[i] = number(w)
	}
	return l
}

// listOf makes a list of words.
func listOf[T any](text string, one func(w string) T) []T {
	var l []T
	for _, w := range strings.Fields(text) {
		l = append(l, one(w))
	}
	return l
}

// itemOf makes an item of its code.
func itemOf(w string) api.Item { return api.Item{Code: w, Volume: 1, Weight: 1} }

// lotOf makes a lot of a word like "milk/a=30": an item, a code, and a day.
func lotOf(w string) api.Lot {
	name, day, _ := strings.Cut(w, "=")
	item, code, _ := strings.Cut(name, "/")
	return api.Lot{Item: item, Code: code, Expiry: number(day)}
}

// zoneOf makes a zone of a word like "z/s": a code and a site.
func zoneOf(w string) api.Zone {
	code, site, _ := strings.Cut(w, "/")
	return api.Zone{Code: code, Site: site}
}

// binOf makes a shelf of a word like "a/z": a code and a zone. With ! behind it, it is frozen; with # and a number, it is of that kind.
func binOf(w string) api.Bin {
	w, frozen := strings.CutSuffix(w, "!")
	w, kind, other := strings.Cut(w, "#")
	if !other {
		kind = "1"
	}
	code, zone, _ := strings.Cut(w, "/")
	return api.Bin{Code: code, Zone: zone, Kind: number(kind), Aisle: 5, Place: 6, Volume: 99, Weight: 99, Frozen: frozen}
}

// keyOf makes a key of a word like "a/nut/l/1": a bin, an item, a lot and a status.
func keyOf(w string) api.Key {
	f := strings.Split(w, "/")
	return api.Key{Bin: f[0], Item: f[1], Lot: f[2], Status: number(f[3])}
}

// quantOf makes a quant of a word like "a/nut/l/1=5,2": a key, how much, and how much of that is held.
func quantOf(w string) api.Quant {
	key, both, _ := strings.Cut(w, "=")
	n := numbers(both, 2)
	return api.Quant{Key: keyOf(key), Qty: n[0], Held: n[1]}
}

// lineFrom makes a line of a word like "nut=20,3": an item, and its numbers from Asked, Done and Back on. "-" is a line that is not in use.
func lineFrom(w string) api.Line {
	if w == "-" {
		return api.Line{}
	}
	item, all, _ := strings.Cut(w, "=")
	n := numbers(all, 5)
	return api.Line{Item: item, Asked: n[0], Done: n[1], Back: n[2], Packed: n[3], Out: n[4]}
}

// orderOf makes an order of words like "o/s nut=20 milk=5": a code, a site and lines.
func orderOf(text string) (x api.Order) {
	name, lines, _ := strings.Cut(text, " ")
	x.Code, x.Site, _ = strings.Cut(name, "/")
	l := listOf(lines, lineFrom)
	if len(l) > len(x.Lines) {
		panic(text)
	}
	copy(x.Lines[:], l)
	return x
}

// ordersOf makes orders of words, with ; between them.
func ordersOf(text string) []api.Order {
	var l []api.Order
	for t := range strings.SplitSeq(text, ";") {
		if t := strings.TrimSpace(t); t != "" {
			l = append(l, orderOf(t))
		}
	}
	return l
}

// claimOf makes a claim of a word like "o/0/a/nut/l/1=5,7": an order, a line, a key, how much, and a task.
func claimOf(w string) api.Claim {
	name, both, _ := strings.Cut(w, "=")
	f := strings.SplitN(name, "/", 3)
	n := numbers(both, 2)
	return api.Claim{Order: f[0], Line: number(f[1]), Key: keyOf(f[2]), Qty: n[0], Task: n[1]}
}

// words is a house in words.
type words struct{ items, lots, zones, bins, quants, orders, claims string }

// house is the house of words, with something in each other list.
func (w words) house() api.House {
	k := api.Key{Bin: "a", Item: "nut", Status: api.Free}
	return api.House{
		Items: listOf(w.items, itemOf), Lots: listOf(w.lots, lotOf), Zones: listOf(w.zones, zoneOf), Bins: listOf(w.bins, binOf),
		Quants: listOf(w.quants, quantOf), Orders: ordersOf(w.orders), Claims: listOf(w.claims, claimOf),
		Rules:   []api.Rule{{Item: "nut", Zone: "z", Rank: 1}},
		Notices: []api.Notice{{Code: "o", Site: "s", Lines: [api.MaxLines]api.Line{{Item: "nut", Asked: 9, Done: 2}}}},
		Tasks:   []api.Task{{Number: 7, Kind: api.Pick, Order: "o", From: k, To: "c", Qty: 3}},
		Parcels: []api.Parcel{{Bin: "k", Order: "o"}},
		Sent:    []api.Sent{{Order: "o", Item: "nut", Qty: 2, Back: 1}},
		Counted: []api.Counted{{Key: k, Qty: 4}},
		Totals:  []api.Total{{Item: "nut", In: 9, Out: 2}}, LastTask: 7,
	}
}

// empty is a house without quants, orders and claims: three shelves at the site s, a frozen one there, a dock, a shelf at the site t, one whose zone is not there, and a carton.
func empty() words {
	return words{
		items: "bolt milk nut oil pen pin rope tape", lots: "milk/a=30 milk/b=9 milk/c", zones: "y/t z/s",
		bins: "a/z b/z c/z d/z! e/z#2 f/y g/gone k/z#4",
	}
}

// with is the empty house with these quants, orders and claims.
func with(quants, orders, claims string) words {
	w := empty()
	w.quants, w.orders, w.claims = quants, orders, claims
	return w
}

// emptyLists makes each empty list of a house nil: which of both it is makes no difference.
func emptyLists(h api.House) api.House {
	v := reflect.ValueOf(&h).Elem()
	for i := range v.NumField() {
		if f := v.Field(i); f.Kind() == reflect.Slice && f.Len() == 0 {
			f.SetZero()
		}
	}
	return h
}

// same checks two houses, all of their lists.
func same(t *testing.T, what string, got, want api.House) {
	t.Helper()
	if got, want := emptyLists(got), emptyLists(want); !reflect.DeepEqual(got, want) {
		t.Errorf("%s is %+v, want %+v", what, got, want)
	}
}

// errno checks an error.
func errno(t *testing.T, what string, got, want api.Errno) {
	t.Helper()
	if got != want {
		t.Errorf("%s = %d, want %d", what, int(got), int(want))
	}
}

// outcome checks what a call answered: an error and an empty house, or a house.
func outcome(t *testing.T, what string, g api.House, e api.Errno, then api.House, want api.Errno) {
	t.Helper()
	errno(t, what, e, want)
	if want != api.OK {
		then = zero
	}
	same(t, what+": the house", g, then)
}

// fault spoils what a call is given; want is the error that a promise then names.
type fault[T any] struct {
	name  string
	spoil func(a *T)
	want  api.Errno
}

// firstErrors makes each set of faults of something that is sound, and checks that a call answers the error of the first one in the order of its promise.
func firstErrors[T any](t *testing.T, what string, sound func() T, call func(a T) (api.House, api.Errno), faults ...fault[T]) {
	t.Helper()
	for set := range 1 << len(faults) {
		a, want := sound(), api.OK
		var names []string
		// The first fault comes last, so that no other one takes it away.
		for i, f := range slices.Backward(faults) {
			if set>>i&1 == 1 {
				f.spoil(&a)
				names = append(names, f.name)
				want = f.want
			}
		}
		g, e := call(a)
		errno(t, what+" with these faults: "+strings.Join(names, ", "), e, want)
		if e != api.OK {
			same(t, what+": the house beside the error", g, zero)
		}
	}
}

// TestExample: the document's example.
func TestExample(t *testing.T) {
	for _, c := range []struct{ where, bin, more, claims string }{
		{"in the same quant", "a", "a/nut//1=9,5", "o/0/a/nut//1=8"},
		{"in another quant", "a", "a/nut//1=5,5 b/nut//1=4", "o/0/a/nut//1=5 o/0/b/nut//1=3"},
		{"in a quant ahead", "b", "a/nut//1=4 b/nut//1=5,5", "o/0/a/nut//1=3 o/0/b/nut//1=5"},
	} {
		h, e := Order(with(c.bin+"/nut//1=5", "", "").house(), orderOf("o/s nut=8"))
		outcome(t, "Order", h, e, with(c.bin+"/nut//1=5", "o/s nut=8", "").house(), api.OK)
		h, e = Allocate(h, "o")
		outcome(t, "Allocate", h, e, with(c.bin+"/nut//1=5,5", "o/s nut=8,0,3", "o/0/"+c.bin+"/nut//1=5").house(), api.OK)

		h.Quants = listOf(c.more, quantOf)
		h, e = Allocate(h, "o")
		errno(t, "Allocate with 4 more "+c.where, e, api.OK)
		if want := listOf(c.claims, claimOf); !slices.Equal(h.Claims, want) {
			t.Errorf("with 4 more %s the claims are %+v, want %+v", c.where, h.Claims, want)
		}
		if !slices.Equal(h.Orders, ordersOf("o/s nut=8,0,0")) {
			t.Errorf("with 4 more %s the orders are %+v", c.where, h.Orders)
		}

		h, e = Drop(h, "o")
		then := with("", "", "").house()
		then.Quants = listOf(c.more, quantOf)
		for i := range then.Quants {
			then.Quants[i].Held = 0
		}
		outcome(t, "Drop with 4 more "+c.where, h, e, then, api.OK)
	}
}
