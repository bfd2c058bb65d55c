package inbound

import (
	"math"
	"strconv"
	"strings"
	"testing"

	"stevedore/api"
)

// stows checks what Stow answers in a house: an error, an empty house and an empty bin, or the house and the bin.
func stows(t *testing.T, why string, h api.House, k api.Key, qty int, then api.House, to string, want api.Errno) {
	t.Helper()
	g, bin, e := Stow(h, k, qty)
	outcome(t, why, g, e, then, want)
	if bin != to {
		t.Errorf("%s: the bin is %q, want %q", why, bin, to)
	}
}

// stowing is a house's rules and quants in words, and what is stowed there: then is the quants behind it, and to the bin.
type stowing struct {
	why, rules, quants, key string
	qty                     int
	want                    api.Errno
	then, to                string
}

// stowAll makes every stowing of some cases in the usual house.
func stowAll(t *testing.T, cases []stowing) {
	t.Helper()
	for _, c := range cases {
		w := usual()
		w.rules, w.quants = c.rules, c.quants
		then := w
		then.quants = c.then
		h := w.house()
		what := c.why + ": Stow of " + strconv.Itoa(c.qty) + " of " + c.key
		stows(t, what, h, keyOf(c.key), c.qty, then.house(), c.to, c.want)
		same(t, what+": the house that was passed", h, w.house())
	}
}

// TestStow: P14.5, what goes and what comes, and where.
func TestStow(t *testing.T) {
	stowAll(t, []stowing{
		{"some", "/z/1", "d/nut//1=5", "d/nut//1", 3, api.OK, "d/nut//1=2 s/nut//1=3", "s"},
		{"all", "/z/1", "d/nut//1=5", "d/nut//1", 5, api.OK, "s/nut//1=5", "s"},
		{"one", "/z/1", "d/nut//1=5", "d/nut//1", 1, api.OK, "d/nut//1=4 s/nut//1=1", "s"},
		{"to more of it", "/z/1", "d/nut//1=5 s/nut//1=4,4", "d/nut//1", 3, api.OK, "d/nut//1=2 s/nut//1=7,4", "s"},
		{"all that is free", "/z/1", "d/nut//1=5,2", "d/nut//1", 3, api.OK, "d/nut//1=2,2 s/nut//1=3", "s"},
		{"what is held first", "/z/1", "d/milk/a/2=5", "d/milk/a/2", 3, api.OK, "d/milk/a/2=2 s/milk/a/2=3", "s"},
		{"what is broken", "/z/1", "d/nut//3=5", "d/nut//3", 3, api.OK, "d/nut//3=2 s/nut//3=3", "s"},
		{"from among others", "/z/1", "c/nut//1=1 d/milk/a/1=2 d/nut//1=5 d/nut//2=3 e/nut//1=4", "d/nut//1", 5, api.OK, "c/nut//1=1 d/milk/a/1=2 d/nut//2=3 e/nut//1=4 s/nut//1=5", "s"},
		{"from another zone's dock", "/z/1", "e/nut//1=5", "e/nut//1", 3, api.OK, "e/nut//1=2 s/nut//1=3", "s"},
		{"at another site", "/z/0 /w/1", "g/nut//1=5", "g/nut//1", 3, api.OK, "g/nut//1=2 t/nut//1=3", "t"},
		{"a rule for the item", "/z/1 nut/y/1", "d/nut//1=5", "d/nut//1", 3, api.OK, "d/nut//1=2 u/nut//1=3", "u"},
		{"no rule for this item", "/z/1 nut/y/1", "d/bolt//1=5", "d/bolt//1", 3, api.OK, "d/bolt//1=2 s/bolt//1=3", "s"},
		{"the lower rank", "/z/0 nut/y/1", "d/nut//1=5", "d/nut//1", 3, api.OK, "d/nut//1=2 s/nut//1=3", "s"},
		{"just as much as goes in", "/z/1 nut/y/1", "d/nut//1=40", "d/nut//1", 20, api.OK, "d/nut//1=20 u/nut//1=20", "u"},
		{"one more, to the next", "/z/1 nut/y/1", "d/nut//1=40", "d/nut//1", 21, api.OK, "d/nut//1=19 s/nut//1=21", "s"},
		{"just as much as goes in anywhere", "/z/1 nut/y/1", "d/nut//1=80", "d/nut//1", 50, api.OK, "d/nut//1=30 s/nut//1=50", "s"},
		{"one more, to none", "/z/1 nut/y/1", "d/nut//1=80", "d/nut//1", 51, api.ErrNowhere, "", ""},
		{"quants in no order", "/z/1", "t/nut//1=1 d/nut//1=5 s/nut//1=2", "d/nut//1", 3, api.OK, "t/nut//1=1 d/nut//1=2 s/nut//1=5", "s"},
		{"the quant twice: the first", "/z/1", "d/nut//1=5 d/nut//1=9", "d/nut//1", 5, api.OK, "d/nut//1=9 s/nut//1=5", "s"},
		{"the quant twice, the first one too few", "/z/1", "d/nut//1=5 d/nut//1=9", "d/nut//1", 6, api.ErrShort, "", ""},
		{"up to the most", "/z/1", "d/tile//1=5 s/tile//1=999999995", "d/tile//1", 5, api.OK, "s/tile//1=1000000000", "s"},
		{"more than the most", "/z/1", "d/tile//1=5 s/tile//1=999999996", "d/tile//1", 5, api.ErrQty, "", ""},

		{"no such bin", "/z/1", "x/nut//1=5", "x/nut//1", 3, api.ErrNone, "", ""},
		{"no bin", "/z/1", "/nut//1=5", "/nut//1", 3, api.ErrNone, "", ""},
		{"a bin in another case", "/z/1", "D/nut//1=5", "D/nut//1", 3, api.ErrNone, "", ""},
		{"a shelf", "/z/1 /y/0", "s/nut//1=5", "s/nut//1", 3, api.ErrKind, "", ""},
		{"a cart", "/z/1", "c/nut//1=5", "c/nut//1", 3, api.ErrKind, "", ""},
		{"a carton", "/z/1", "k/nut//1=5", "k/nut//1", 3, api.ErrKind, "", ""},
		{"no such item", "/z/1", "d/wine//1=5", "d/wine//1", 3, api.ErrNone, "", ""},
		{"no item", "/z/1", "d///1=5", "d///1", 3, api.ErrNone, "", ""},
		{"no rules", "", "d/nut//1=5", "d/nut//1", 3, api.ErrNowhere, "", ""},
		{"rules of another item", "bolt/z/1", "d/nut//1=5", "d/nut//1", 3, api.ErrNowhere, "", ""},
		{"rules of another site", "/w/1", "d/nut//1=5", "d/nut//1", 3, api.ErrNowhere, "", ""},
		{"rules of this site, from another", "/z/1 /y/1", "g/nut//1=5", "g/nut//1", 3, api.ErrNowhere, "", ""},
		{"a frozen dock", "/z/1", "f/nut//1=5", "f/nut//1", 3, api.ErrFrozen, "", ""},
		{"a frozen dock, and nowhere to go", "", "f/nut//1=5", "f/nut//1", 3, api.ErrNowhere, "", ""},
		{"no such quant", "/z/1", "e/nut//1=5", "d/nut//1", 3, api.ErrNone, "", ""},
		{"another lot", "/z/1", "d/milk/a/1=5", "d/milk/b/1", 3, api.ErrNone, "", ""},
		{"another status", "/z/1", "d/nut//1=5", "d/nut//2", 3, api.ErrNone, "", ""},
		{"too few", "/z/1", "d/nut//1=5", "d/nut//1", 6, api.ErrShort, "", ""},
		{"too many held", "/z/1", "d/nut//1=5,3", "d/nut//1", 3, api.ErrHeld, "", ""},
		{"all held", "/z/1", "d/nut//1=5,5", "d/nut//1", 1, api.ErrHeld, "", ""},
		{"nothing", "/z/1", "d/nut//1=5", "d/nut//1", 0, api.ErrQty, "", ""},
		{"less than nothing", "/z/1", "d/nut//1=5", "d/nut//1", -1, api.ErrQty, "", ""},
		{"nothing, and nowhere to go", "", "d/nut//1=5", "d/nut//1", 0, api.ErrNowhere, "", ""},
		{"the greatest number there is", "/z/1", "d/tile//1=5", "d/tile//1", math.MaxInt, api.ErrQty, "", ""},
		{"the least number there is", "/z/1", "d/tile//1=5", "d/tile//1", math.MinInt, api.ErrQty, "", ""},
		{"too many of what takes no room", "/z/1", "d/tile//1=5", "d/tile//1", 1000000001, api.ErrQty, "", ""},
	})
	stows(t, "a house without anything", zero, api.Key{}, 0, zero, "", api.ErrNone)
}

// TestStowBins: P14.5, which of several bins is meant, and the shelves that are frozen.
func TestStowBins(t *testing.T) {
	for _, c := range []struct {
		why, zones, bins string
		to               string
		want             api.Errno
	}{
		{"the dock twice, the second one a shelf of another zone", "w/t y/s z/s", "d/z=9,9 d/y=9,9#1 s/z=9,9#1", "s", api.OK},
		{"the dock twice, the first one a shelf", "w/t y/s z/s", "d/y=9,9#1 d/z=9,9 s/z=9,9#1", "", api.ErrKind},
		{"the dock twice, the second one at another site", "w/t y/s z/s", "d/z=9,9 d/w=9,9 s/z=9,9#1", "s", api.OK},
		{"the dock twice, the first one at another site", "w/t y/s z/s", "d/w=9,9 d/z=9,9 s/z=9,9#1", "", api.ErrNowhere},
		{"the dock twice, the second one frozen", "w/t y/s z/s", "d/z=9,9 d/z=9,9! s/z=9,9#1", "s", api.OK},
		{"the dock twice, the first one frozen", "w/t y/s z/s", "d/z=9,9! d/z=9,9 s/z=9,9#1", "", api.ErrFrozen},
		{"the dock is also a shelf of the rule", "z/s", "d/z=9,9 d/z=9,9#1 s/z=9,9#1", "", api.ErrArg},
		{"the zone twice", "z/s z/t", "d/z=9,9 s/z=9,9#1", "s", api.OK},
		{"bins in no order", "z/s", "s/z=9,9#1 r/z=9,9#1 d/z=9,9", "r", api.OK},
		{"a frozen shelf", "z/s", "d/z=9,9 r/z=9,9#1! s/z=9,9#1", "s", api.OK},
		{"a shelf that is full", "z/s", "d/z=9,9 r/z=2,9#1 s/z=9,9#1", "s", api.OK},
		{"a shelf that is too weak", "z/s", "d/z=9,9 r/z=9,2#1 s/z=9,9#1", "s", api.OK},
		{"all shelves frozen or full", "z/s", "d/z=9,9 r/z=2,9#1 s/z=9,9#1!", "", api.ErrNowhere},
		{"docks, carts and cartons alone", "z/s", "d/z=9,9 a/z=9,9 b/z=9,9#3 c/z=9,9#4", "", api.ErrNowhere},
		{"a dock whose zone is not there", "z/s", "d/x=9,9 s/z=9,9#1", "", api.ErrNowhere},
		{"a zone without a site", "z/", "d/x=9,9 s/z=9,9#1", "s", api.OK},
	} {
		w := usual()
		w.zones, w.bins, w.rules, w.quants = c.zones, c.bins, "/z/1", "d/nut//1=5"
		then := w
		then.quants = "d/nut//1=2 " + c.to + "/nut//1=3"
		if c.to == "r" || c.to == "s" {
			stows(t, c.why, w.house(), keyOf("d/nut//1"), 3, then.house(), c.to, c.want)
			continue
		}
		stows(t, c.why, w.house(), keyOf("d/nut//1"), 3, zero, "", c.want)
	}
}

// dispatch is a house, and what is stowed there.
type dispatch struct {
	h   api.House
	k   api.Key
	qty int
}

// TestFirstErrorOfStow: P14.5 and R1, of several errors the first one that the promise names, for each set of them.
func TestFirstErrorOfStow(t *testing.T) {
	sound := func() dispatch {
		w := usual()
		w.quants, w.rules = "d/nut//1=5,1 s/nut//1=4", "/z/1"
		return dispatch{w.house(), keyOf("d/nut//1"), 3}
	}
	call := func(a dispatch) api.Errno {
		g, to, e := Stow(a.h, a.k, a.qty)
		if e != api.OK {
			same(t, "the house beside the error", g, zero)
		}
		if e != api.OK && to != "" || e == api.OK && to != "s" {
			t.Errorf("the bin beside %d is %q", int(e), to)
		}
		return e
	}
	bin := func(to func(b *api.Bin)) func(a *dispatch) {
		return func(a *dispatch) { change(a.h.Bins, func(b api.Bin) bool { return b.Code == "d" }, to) }
	}
	quant := func(key string, to func(q *api.Quant)) func(a *dispatch) {
		return func(a *dispatch) {
			change(a.h.Quants, func(q api.Quant) bool { return q.Key == keyOf(key) }, to)
		}
	}
	item := func(to func(x *api.Item)) func(a *dispatch) {
		return func(a *dispatch) { change(a.h.Items, func(x api.Item) bool { return x.Code == "nut" }, to) }
	}
	noBin := fault[dispatch]{"no bin", bin(func(b *api.Bin) { b.Code = "x" }), api.ErrNone}
	kind := fault[dispatch]{"a cart", bin(func(b *api.Bin) { b.Kind = api.Cart }), api.ErrKind}
	noItem := fault[dispatch]{"no item", item(func(x *api.Item) { x.Code = "gone" }), api.ErrNone}
	nowhere := fault[dispatch]{"no rules", func(a *dispatch) { a.h.Rules = nil }, api.ErrNowhere}
	elsewhere := fault[dispatch]{"another site", bin(func(b *api.Bin) { b.Zone = "w" }), api.ErrNowhere}
	frozen := fault[dispatch]{"frozen", bin(func(b *api.Bin) { b.Frozen = true }), api.ErrFrozen}
	nothing := fault[dispatch]{"nothing", func(a *dispatch) { a.qty = 0 }, api.ErrQty}
	noQuant := fault[dispatch]{"no quant", quant("d/nut//1", func(q *api.Quant) { q.Lot = "x" }), api.ErrNone}
	tooFew := fault[dispatch]{"too few", quant("d/nut//1", func(q *api.Quant) { q.Qty = 2 }), api.ErrShort}
	held := fault[dispatch]{"too many held", quant("d/nut//1", func(q *api.Quant) { q.Held = 4 }), api.ErrHeld}
	most := fault[dispatch]{"the most of the quant", func(a *dispatch) {
		quant("s/nut//1", func(q *api.Quant) { q.Qty = 1000000000 })(a)
		item(func(x *api.Item) { x.Volume, x.Weight = 0, 0 })(a)
	}, api.ErrQty}
	crowded := fault[dispatch]{"too many quants", func(a *dispatch) {
		quant("s/nut//1", func(q *api.Quant) { q.Lot = "x" })(a)
		a.h.Quants = append(a.h.Quants, crowd(256)...)
	}, api.ErrQuants}

	for _, none := range []fault[dispatch]{nowhere, elsewhere} {
		firstErrors(t, "Stow", sound, call, noBin, kind, noItem, none, frozen, nothing, noQuant, tooFew, held, most)
		firstErrors(t, "Stow", sound, call, noBin, kind, noItem, none, frozen, nothing, noQuant, tooFew, held, crowded)
	}
}

// TestStowAny: P14.5, texts need not be names.
func TestStowAny(t *testing.T) {
	for _, text := range []string{"", " ", "a b", "\xff", "\x00", strings.Repeat("x", 300)} {
		k := api.Key{Bin: text, Item: text, Lot: text, Status: -7}
		h := api.House{
			Items: []api.Item{{Code: text, Volume: 1}}, Zones: []api.Zone{{Code: text, Site: text}}, Rules: []api.Rule{{Item: text, Zone: text}},
			Bins: []api.Bin{{Code: text, Zone: text, Kind: api.Dock}, {Code: text + "2", Zone: text, Kind: api.Shelf, Volume: 3}}, Quants: []api.Quant{{Key: k, Qty: 5}},
		}
		to := k
		to.Bin = text + "2"
		then := h
		then.Quants = []api.Quant{{Key: k, Qty: 2}, {Key: to, Qty: 3}}
		stows(t, "Stow of "+strconv.Quote(text), h, k, 3, then, to.Bin, api.OK)
		stows(t, "Stow of one more of "+strconv.Quote(text), h, k, 4, zero, "", api.ErrNowhere)
		stows(t, "Stow from another bin than "+strconv.Quote(text), h, api.Key{Bin: text + "."}, 1, zero, "", api.ErrNone)
	}
}
