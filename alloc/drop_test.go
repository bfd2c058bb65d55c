package alloc

import (
	"math"
	"reflect"
	"strconv"
	"strings"
	"testing"

	"stevedore/api"
)

// drops checks what Drop answers of an order in a house: an error, or a house.
func drops(t *testing.T, why string, from books, code string, want api.Errno, then books) {
	t.Helper()
	h := from.house()
	g, e := Drop(h, code)
	outcome(t, why+": Drop", g, e, then.house(), want)
	same(t, why+": the house that was passed", h, from.house())
}

// TestDrop: P16.4, an order that goes, with its claims and what they hold.
func TestDrop(t *testing.T) {
	for _, c := range []struct {
		why        string
		from, then books
	}{
		{"no claims", books{"a/nut//1=5,2", "o/s nut=8", ""}, books{"a/nut//1=5,2", "", ""}},
		{"no lines", books{"a/nut//1=5,2", "o/s", ""}, books{"a/nut//1=5,2", "", ""}},
		{"no quants", books{"", "o/s nut=8,0,8", ""}, books{}},
		{"a claim", books{"a/nut//1=5,5", "o/s nut=8,0,3", "o/0/a/nut//1=5"}, books{"a/nut//1=5", "", ""}},
		{"a claim, and others hold too", books{"a/nut//1=5,4", "o/s nut=3", "o/0/a/nut//1=3"}, books{"a/nut//1=5,1", "", ""}},
		{"several claims of several lines", books{"a/nut//1=5,5 b/nut//1=4,2 b/pin/l/2=9,9", "o/s nut=7 pin=9", "o/0/a/nut//1=5 o/0/b/nut//1=2 o/1/b/pin/l/2=9"}, books{"a/nut//1=5 b/nut//1=4 b/pin/l/2=9", "", ""}},
		{"claims of one quant", books{"a/nut//1=9,9", "o/s nut=3 nut=4", "o/0/a/nut//1=3 o/1/a/nut//1=4"}, books{"a/nut//1=9,2", "", ""}},
		{"a claim of a line that is not there", books{"a/nut//1=9,9", "o/s nut=3", "o/-1/a/nut//1=1 o/5/a/nut//1=2 o/8/a/nut//1=3"}, books{"a/nut//1=9,3", "", ""}},
		{"others' claims stay", books{"a/nut//1=9,9", "n/s nut=3; o/s nut=3; p/s nut=3", "n/0/a/nut//1=3 o/0/a/nut//1=3 p/0/a/nut//1=3"}, books{"a/nut//1=9,6", "n/s nut=3; p/s nut=3", "n/0/a/nut//1=3 p/0/a/nut//1=3"}},
		{"others' tasks and picks", books{"a/nut//1=9,9", "n/s nut=3,1; o/s nut=3", "n/0/a/nut//1=2,7 o/0/a/nut//1=3"}, books{"a/nut//1=9,6", "n/s nut=3,1", "n/0/a/nut//1=2,7"}},
		{"backordered, packed and out", books{"a/nut//1=9,9", "o/s nut=3,0,4,5,6", "o/0/a/nut//1=3"}, books{"a/nut//1=9,6", "", ""}},
		{"a line that is not in use, whatever its numbers", books{"a/nut//1=9,9", "o/s =3,5 nut=3 =0,-1", "o/0/a/nut//1=3"}, books{"a/nut//1=9,6", "", ""}},
		{"the first order", books{"", "o/s nut=3; p/s nut=4; q/s nut=5", ""}, books{"", "p/s nut=4; q/s nut=5", ""}},
		{"the last order", books{"", "m/s nut=3; n/s nut=4; o/s nut=5", ""}, books{"", "m/s nut=3; n/s nut=4", ""}},
		{"orders in no order", books{"", "p/s nut=3; a/s nut=4; o/s nut=5; b/s nut=1", ""}, books{"", "p/s nut=3; a/s nut=4; b/s nut=1", ""}},
		{"an order twice: the first", books{"a/nut//1=9,9", "o/s nut=3; o/t pin=4,4", "o/0/a/nut//1=3"}, books{"a/nut//1=9,6", "o/t pin=4,4", ""}},
		{"claims in no order", books{"a/nut//1=9,9 b/nut//1=9,9", "o/s nut=3", "p/0/a/nut//1=1 o/0/b/nut//1=2 a/0/a/nut//1=3 o/0/a/nut//1=4"}, books{"a/nut//1=9,5 b/nut//1=9,7", "", "p/0/a/nut//1=1 a/0/a/nut//1=3"}},
		{"a claim twice", books{"a/nut//1=9,9", "o/s nut=3", "o/0/a/nut//1=1 p/0/a/nut//1=1 o/0/a/nut//1=4"}, books{"a/nut//1=9,4", "", "p/0/a/nut//1=1"}},
		{"a claim of nothing", books{"a/nut//1=9,9", "o/s nut=3", "o/0/a/nut//1=0"}, books{"a/nut//1=9,9", "", ""}},
		{"a claim of less than nothing", books{"a/nut//1=9,6", "o/s nut=3", "o/0/a/nut//1=-3"}, books{"a/nut//1=9,9", "", ""}},
		{"more is claimed than there is", books{"a/nut//1=1,5", "o/s nut=5", "o/0/a/nut//1=5"}, books{"a/nut//1=1", "", ""}},
		{"a quant of nothing", books{"a/nut//1=0,3 b/nut//1=1", "o/s nut=3", "o/0/a/nut//1=3"}, books{"b/nut//1=1", "", ""}},
		{"a quant twice: the first", books{"a/nut//1=9,3 a/nut//1=9,4", "o/s nut=3", "o/0/a/nut//1=3"}, books{"a/nut//1=9 a/nut//1=9,4", "", ""}},
		{"the most", books{"a/nut//1=1000000000,1000000000", "o/s nut=1000000000", "o/0/a/nut//1=1000000000"}, books{"a/nut//1=1000000000", "", ""}},
		{"whatever the bins and sites are", books{"d/nut//1=5,1 f/nut//2=5,2 x/nut//3=5,3", "o/r nut=6", "o/0/d/nut//1=1 o/0/f/nut//2=2 o/0/x/nut//3=3"}, books{"d/nut//1=5 f/nut//2=5 x/nut//3=5", "", ""}},
	} {
		drops(t, c.why, c.from, "o", api.OK, c.then)
	}
	drops(t, "an order without a code", books{"a/nut//1=5,5", "/s nut=6; o/s nut=1", "/0/a/nut//1=4 o/0/a/nut//1=1"}, "", api.OK, books{"a/nut//1=5,1", "o/s nut=1", "o/0/a/nut//1=1"})
}

// TestState: P16.4, an order of which some was picked, or is to be, stays.
func TestState(t *testing.T) {
	sound := books{"a/nut//1=9,9", "o/s nut=3 - pin=4", "o/0/a/nut//1=3 o/2/a/nut//1=4"}
	drops(t, "nothing begun", sound, "o", api.OK, books{"a/nut//1=9,2", "", ""})
	for _, orders := range []string{"o/s nut=3,1 - pin=4", "o/s nut=3 - pin=4,1", "o/s nut=3,3 - pin=4,4", "o/s nut=3,-1 - pin=4", "o/s nut=3,4 - pin=4,-4", "o/s nut=3 - - - - - - pin=4,1", "o/s nut=3,9223372036854775807", "o/s nut=3,-9223372036854775808", "o/s nut=3,1; o/s nut=3"} {
		drops(t, "picked: "+orders, books{sound.quants, orders, sound.claims}, "o", api.ErrState, books{})
		drops(t, "picked, and no claims: "+orders, books{"", orders, ""}, "o", api.ErrState, books{})
	}
	for _, claims := range []string{"o/0/a/nut//1=3,1", "o/0/a/nut//1=3,-1", "o/0/a/nut//1=3 o/2/a/nut//1=4,7", "o/0/a/nut//1=3,7 o/2/a/nut//1=4", "o/0/a/nut//1=3,7 o/2/a/nut//1=4,8", "o/0/a/nut//1=0,7", "o/5/a/nut//1=3,7", "o/0/x/nut//1=3,7", "n/0/a/nut//1=3 o/0/a/nut//1=3 p/0/a/nut//1=3 o/0/a/nut//1=3,9", "o/0/a/nut//1=3,4294967296"} {
		drops(t, "to be picked: "+claims, books{sound.quants, sound.orders, claims}, "o", api.ErrState, books{})
	}
}

// TestDropErrors: P16.4, an error of stock.Hold is that of Drop, of the first claim that has one.
func TestDropErrors(t *testing.T) {
	for _, c := range []struct {
		why, quants, claims string
		want                api.Errno
	}{
		{"no quants", "", "o/0/a/nut//1=3", api.ErrNone},
		{"the quant is not there", "a/nut//2=9,9 b/nut//1=9,9", "o/0/a/nut//1=3", api.ErrNone},
		{"the quant of the last claim is not there", "a/nut//1=9,9", "o/0/a/nut//1=3 o/0/b/nut//1=3", api.ErrNone},
		{"the quant of a claim of nothing is not there", "a/nut//1=9,9", "o/0/b/nut//1=0", api.ErrNone},
		{"nothing is left of the quant", "a/nut//1=0,3", "o/0/a/nut//1=3 o/1/a/nut//1=0", api.ErrNone},
		{"more would be held than there is", "a/nut//1=0,5", "o/0/a/nut//1=3", api.ErrHeld},
		{"more than is held", "a/nut//1=9,2", "o/0/a/nut//1=3", api.ErrHeld},
		{"more than is held, of two claims", "a/nut//1=9,6", "o/0/a/nut//1=3 o/1/a/nut//1=4", api.ErrHeld},
		{"more than is free, of a claim of less than nothing", "a/nut//1=9,7", "o/0/a/nut//1=-3", api.ErrHeld},
		{"more than may be held", "a/nut//1=9,9", "o/0/a/nut//1=1000000001", api.ErrQty},
		{"less than may be held", "a/nut//1=9,9", "o/0/a/nut//1=-1000000001", api.ErrQty},
		{"the least number, which is its own opposite", "a/nut//1=9,9", "o/0/a/nut//1=" + strconv.Itoa(math.MinInt), api.ErrQty},
		{"not there, then too much", "a/nut//1=9,2", "o/0/b/nut//1=3 o/0/a/nut//1=1000000001", api.ErrNone},
		{"too much, then not there", "a/nut//1=9,2", "o/0/a/nut//1=1000000001 o/0/b/nut//1=3", api.ErrQty},
		{"too few held, then not there", "a/nut//1=9,2", "p/0/b/nut//1=3 o/0/a/nut//1=3 o/0/b/nut//1=3", api.ErrHeld},
		{"another order's quant is not there", "a/nut//1=9,9", "n/0/x/nut//1=3 o/0/a/nut//1=3", api.OK},
	} {
		h := with(c.quants, "o/s nut=3", c.claims).house()
		g, e := Drop(h, "o")
		errno(t, c.why, e, c.want)
		if e != api.OK {
			same(t, c.why+": the house beside the error", g, zero)
		}
		same(t, c.why+": the house that was passed", h, with(c.quants, "o/s nut=3", c.claims).house())
	}
}

// called is a house and the code of one of its orders.
type called struct {
	h    api.House
	code string
}

// TestFirstErrorOfDrop: P16.3, P16.4 and R1, of several errors the first one that the promise names, for each set of them.
func TestFirstErrorOfDrop(t *testing.T) {
	sound := func() called {
		return called{with("a/nut//1=9,5 b/nut//1=9,5", "o/s nut=30", "o/0/a/nut//1=3 o/0/b/nut//1=4").house(), "o"}
	}
	drop := func(c called) (api.House, api.Errno) { return Drop(c.h, c.code) }
	allocate := func(c called) (api.House, api.Errno) { return Allocate(c.h, c.code) }
	none := fault[called]{"no order", func(c *called) { c.code = "x" }, api.ErrNone}
	begun := fault[called]{"some picked", func(c *called) { c.h.Orders[0].Lines[0].Done = 1 }, api.ErrState}
	task := fault[called]{"a task", func(c *called) { c.h.Claims[1].Task = 7 }, api.ErrState}
	tooFew := fault[called]{"too few held", func(c *called) { c.h.Quants[0].Held = 2 }, api.ErrHeld}
	tooMany := fault[called]{"too many claimed", func(c *called) { c.h.Claims[1].Qty = 1000000001 }, api.ErrQty}
	firstErrors(t, "Drop", sound, drop, none, begun, task, tooFew, tooMany)

	huge := fault[called]{"more than may be held", func(c *called) {
		c.h.Quants[0].Qty, c.h.Orders[0].Lines[0].Asked = 2000000000, 2000000000
	}, api.ErrQty}
	twice := fault[called]{"a quant twice", func(c *called) { c.h.Quants = append(c.h.Quants, c.h.Quants[1]) }, api.ErrHeld}
	full := fault[called]{"no room for a claim", func(c *called) { c.h.Claims = manyClaims(128) }, api.ErrFull}
	firstErrors(t, "Allocate", sound, allocate, none, huge, full)
	firstErrors(t, "Allocate", sound, allocate, none, huge, twice)
	firstErrors(t, "Allocate", sound, allocate, none, full, twice)
}

// TestRestored: P16.4 and P16.5, to drop an order that was just allocated leaves the house as it was without it.
func TestRestored(t *testing.T) {
	stock := "a/milk/a/1=5,1 a/nut//1=5 b/milk/b/1=9,9 b/nut//1=4,3 b/nut//2=7,7 c/milk/c/1=2 c/nut//1=8 d/nut//1=5,5 f/nut//1=5,2"
	others := "m/0/b/nut//1=3 q/0/b/nut//1=1,7"
	for _, lines := range []string{"nut=1", "nut=13", "nut=14", "nut=15", "pin=3", "milk=6 nut=2 pin=1", "- milk=90 - nut=90 -", "oil=1 pen=2 pin=3 rope=4 tape=5 nut=6 milk=7 bolt=8"} {
		for _, site := range []string{"s", "t"} {
			before := with(stock, "m/s nut=3; q/s nut=1", others).house()
			h, e := Order(before, orderOf("o/"+site+" "+lines))
			errno(t, "Order of "+lines, e, api.OK)
			h, e = Allocate(h, "o")
			errno(t, "Allocate of "+lines, e, api.OK)
			if open := strings.Contains(lines, "nut"); open && reflect.DeepEqual(h.Quants, before.Quants) {
				t.Errorf("of %s nothing is held", lines)
			}
			h, e = Drop(h, "o")
			outcome(t, "Drop of "+lines+" at "+site, h, e, before, api.OK)
		}
	}
}
