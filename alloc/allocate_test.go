package alloc

import (
	"slices"
	"strconv"
	"strings"
	"testing"

	"stevedore/api"
	"stevedore/index"
)

// books are a house's quants, orders and claims in words: what alloc changes.
type books struct{ quants, orders, claims string }

// house is the house of books.
func (b books) house() api.House { return with(b.quants, b.orders, b.claims).house() }

// allocates checks what Allocate answers of an order in a house: an error, or a house.
func allocates(t *testing.T, why string, from books, code string, want api.Errno, then books) {
	t.Helper()
	h := from.house()
	g, e := Allocate(h, code)
	outcome(t, why+": Allocate", g, e, then.house(), want)
	same(t, why+": the house that was passed", h, from.house())
}

// TestWanted: P16.3, how much is wanted of a line, and how much of that there is.
func TestWanted(t *testing.T) {
	for _, c := range []struct {
		why        string
		from, then books
	}{
		{"just what is open", books{"a/nut//1=5", "o/s nut=5", ""}, books{"a/nut//1=5,5", "o/s nut=5", "o/0/a/nut//1=5"}},
		{"one less than is open", books{"a/nut//1=5", "o/s nut=4", ""}, books{"a/nut//1=5,4", "o/s nut=4", "o/0/a/nut//1=4"}},
		{"one more than is open", books{"a/nut//1=5", "o/s nut=6", ""}, books{"a/nut//1=5,5", "o/s nut=6,0,1", "o/0/a/nut//1=5"}},
		{"one", books{"a/nut//1=5", "o/s nut=1", ""}, books{"a/nut//1=5,1", "o/s nut=1", "o/0/a/nut//1=1"}},
		{"one of one", books{"a/nut//1=1", "o/s nut=1", ""}, books{"a/nut//1=1,1", "o/s nut=1", "o/0/a/nut//1=1"}},
		{"one of none", books{"", "o/s nut=1", ""}, books{"", "o/s nut=1,0,1", ""}},
		{"what the others do not hold", books{"a/nut//1=5,2", "o/s nut=4", ""}, books{"a/nut//1=5,5", "o/s nut=4,0,1", "o/0/a/nut//1=3"}},
		{"the others hold all", books{"a/nut//1=5,5", "o/s nut=4", ""}, books{"a/nut//1=5,5", "o/s nut=4,0,4", ""}},
		{"the most", books{"a/nut//1=1000000000", "o/s nut=1000000000", ""}, books{"a/nut//1=1000000000,1000000000", "o/s nut=1000000000", "o/0/a/nut//1=1000000000"}},

		{"what was not picked", books{"a/nut//1=9", "o/s nut=5,3", ""}, books{"a/nut//1=9,2", "o/s nut=5,3", "o/0/a/nut//1=2"}},
		{"one was not picked", books{"a/nut//1=9", "o/s nut=5,4", ""}, books{"a/nut//1=9,1", "o/s nut=5,4", "o/0/a/nut//1=1"}},
		{"all was picked", books{"a/nut//1=9", "o/s nut=5,5,7", ""}, books{"a/nut//1=9", "o/s nut=5,5,0", ""}},
		{"more than all was picked", books{"a/nut//1=9", "o/s nut=5,6,7", ""}, books{"a/nut//1=9", "o/s nut=5,6,0", ""}},
		{"less than nothing was picked", books{"a/nut//1=9", "o/s nut=5,-3", ""}, books{"a/nut//1=9,8", "o/s nut=5,-3", "o/0/a/nut//1=8"}},
		{"nothing asked", books{"a/nut//1=9", "o/s nut=0,0,7", ""}, books{"a/nut//1=9", "o/s nut=0,0,0", ""}},
		{"less than nothing asked", books{"a/nut//1=9", "o/s nut=-5,0,-7", ""}, books{"a/nut//1=9", "o/s nut=-5,0,0", ""}},
		{"asked and picked wrap around", books{"a/nut//1=9", "o/s nut=-9223372036854775808,1", ""}, books{"a/nut//1=9,9", "o/s nut=-9223372036854775808,1,9223372036854775798", "o/0/a/nut//1=9"}},
		{"asked and picked wrap around, below 0", books{"a/nut//1=9", "o/s nut=9223372036854775807,-1,4", ""}, books{"a/nut//1=9", "o/s nut=9223372036854775807,-1,0", ""}},

		{"what is not claimed", books{"a/nut//1=9,2", "o/s nut=5", "o/0/a/nut//1=2"}, books{"a/nut//1=9,5", "o/s nut=5", "o/0/a/nut//1=5"}},
		{"what is not claimed, and too little", books{"a/nut//1=4,2", "o/s nut=5", "o/0/a/nut//1=2"}, books{"a/nut//1=4,4", "o/s nut=5,0,1", "o/0/a/nut//1=4"}},
		{"all is claimed", books{"a/nut//1=9,5", "o/s nut=5,0,7", "o/0/a/nut//1=5"}, books{"a/nut//1=9,5", "o/s nut=5,0,0", "o/0/a/nut//1=5"}},
		{"more than all is claimed", books{"a/nut//1=9,6", "o/s nut=5,0,7", "o/0/a/nut//1=6"}, books{"a/nut//1=9,6", "o/s nut=5,0,0", "o/0/a/nut//1=6"}},
		{"all is claimed for a task", books{"a/nut//1=9,5", "o/s nut=5,0,7", "o/0/a/nut//1=5,3"}, books{"a/nut//1=9,5", "o/s nut=5,0,0", "o/0/a/nut//1=5,3"}},
		{"some is claimed for a task", books{"a/nut//1=9,3", "o/s nut=5", "o/0/a/nut//1=3,7"}, books{"a/nut//1=9,5", "o/s nut=5", "o/0/a/nut//1=2 o/0/a/nut//1=3,7"}},
		{"some is claimed for a task and some for none", books{"a/nut//1=9,4", "o/s nut=6", "o/0/a/nut//1=1 o/0/a/nut//1=3,7"}, books{"a/nut//1=9,6", "o/s nut=6", "o/0/a/nut//1=3 o/0/a/nut//1=3,7"}},
		{"some is picked and some claimed", books{"a/nut//1=9,3", "o/s nut=10,4", "o/0/a/nut//1=3,7"}, books{"a/nut//1=9,6", "o/s nut=10,4", "o/0/a/nut//1=3 o/0/a/nut//1=3,7"}},
		{"some of another quant is claimed", books{"a/nut//1=2 b/nut//2=9,3", "o/s nut=5", "o/0/b/nut//2=3"}, books{"a/nut//1=2,2 b/nut//2=9,3", "o/s nut=5", "o/0/a/nut//1=2 o/0/b/nut//2=3"}},
		{"a claim whose quant is not there", books{"a/nut//1=9", "o/s nut=5", "o/0/x/nut//1=3"}, books{"a/nut//1=9,2", "o/s nut=5", "o/0/a/nut//1=2 o/0/x/nut//1=3"}},
		{"a claim of another item", books{"a/nut//1=9", "o/s nut=5", "o/0/a/pin//1=3"}, books{"a/nut//1=9,2", "o/s nut=5", "o/0/a/nut//1=2 o/0/a/pin//1=3"}},
		{"claims of other orders and lines", books{"a/nut//1=9,6", "o/s nut=5", "n/0/a/nut//1=3 o/1/a/nut//1=3 p/0/a/nut//1=3"}, books{"a/nut//1=9,9", "o/s nut=5,0,2", "n/0/a/nut//1=3 o/0/a/nut//1=3 o/1/a/nut//1=3 p/0/a/nut//1=3"}},
		{"a claim of less than nothing", books{"a/nut//1=9", "o/s nut=5", "o/0/a/nut//1=-2"}, books{"a/nut//1=9,7", "o/s nut=5", "o/0/a/nut//1=5"}},
		{"a claim that becomes nothing", books{"a/nut//1=2", "o/s nut=5", "o/0/a/nut//1=-2"}, books{"a/nut//1=2,2", "o/s nut=5,0,5", ""}},
	} {
		allocates(t, c.why, c.from, "o", api.OK, c.then)
	}
}

// TestTaken: P16.3, what is taken is what the naive selection takes, in its order.
func TestTaken(t *testing.T) {
	for _, c := range []struct {
		why        string
		from, then books
	}{
		{"by bin", books{"a/nut//1=2 b/nut//1=3 c/nut//1=4", "o/s nut=6", ""}, books{"a/nut//1=2,2 b/nut//1=3,3 c/nut//1=4,1", "o/s nut=6", "o/0/a/nut//1=2 o/0/b/nut//1=3 o/0/c/nut//1=1"}},
		{"what expires first", books{"a/milk/c/1=9 b/milk/a/1=3 c/milk/b/1=2", "o/s milk=6", ""}, books{"a/milk/c/1=9,1 b/milk/a/1=3,3 c/milk/b/1=2,2", "o/s milk=6", "o/0/a/milk/c/1=1 o/0/b/milk/a/1=3 o/0/c/milk/b/1=2"}},
		{"what expires first is enough", books{"a/milk/c/1=9 b/milk/a/1=3 c/milk/b/1=2", "o/s milk=2", ""}, books{"a/milk/c/1=9 b/milk/a/1=3 c/milk/b/1=2,2", "o/s milk=2", "o/0/c/milk/b/1=2"}},
		{"by lot", books{"a/nut/m/1=9 b/nut/l/1=3", "o/s nut=4", ""}, books{"a/nut/m/1=9,1 b/nut/l/1=3,3", "o/s nut=4", "o/0/a/nut/m/1=1 o/0/b/nut/l/1=3"}},
		{"what is held is passed by", books{"a/nut//1=2,2 b/nut//1=3,1 c/nut//1=4", "o/s nut=3", ""}, books{"a/nut//1=2,2 b/nut//1=3,3 c/nut//1=4,1", "o/s nut=3", "o/0/b/nut//1=2 o/0/c/nut//1=1"}},
		{"only what may be taken", books{"a/nut//2=5 a/nut//3=5 d/nut//1=5 e/nut//1=5 f/nut//1=5 g/nut//1=5 k/nut//1=5 x/nut//1=5 a/pin//1=5", "o/s nut=7", ""}, books{"a/nut//2=5 a/nut//3=5 d/nut//1=5 e/nut//1=5 f/nut//1=5 g/nut//1=5 k/nut//1=5 x/nut//1=5 a/pin//1=5", "o/s nut=7,0,7", ""}},
		{"at another site", books{"a/nut//1=5 f/nut//1=5", "o/t nut=7", ""}, books{"a/nut//1=5 f/nut//1=5,5", "o/t nut=7,0,2", "o/0/f/nut//1=5"}},
		{"at a site that is not there", books{"a/nut//1=5 f/nut//1=5", "o/r nut=7", ""}, books{"a/nut//1=5 f/nut//1=5", "o/r nut=7,0,7", ""}},
		{"at the empty site", books{"a/nut//1=5 g/nut//1=5", "o/ nut=7", ""}, books{"a/nut//1=5 g/nut//1=5,5", "o/ nut=7,0,2", "o/0/g/nut//1=5"}},
		{"an item that is not there", books{"a/wine//1=5", "o/s wine=7", ""}, books{"a/wine//1=5,5", "o/s wine=7,0,2", "o/0/a/wine//1=5"}},
		{"a quant of nothing, and less held", books{"a/nut//1=0,-3", "o/s nut=3", ""}, books{"", "o/s nut=3", "o/0/a/nut//1=3"}},
		{"quants in no order", books{"c/nut//1=4 a/nut//1=2 b/nut//1=3", "o/s nut=6", ""}, books{"c/nut//1=4,1 a/nut//1=2,2 b/nut//1=3,3", "o/s nut=6", "o/0/a/nut//1=2 o/0/b/nut//1=3 o/0/c/nut//1=1"}},
		{"a quant twice, and the first is enough", books{"a/nut//1=5 a/nut//1=3", "o/s nut=5", ""}, books{"a/nut//1=5,5 a/nut//1=3", "o/s nut=5", "o/0/a/nut//1=5"}},
		{"claims in no order", books{"a/nut//1=2 b/nut//1=3", "o/s nut=5", "p/0/a/nut//1=3 m/0/a/nut//1=3"}, books{"a/nut//1=2,2 b/nut//1=3,3", "o/s nut=5", "o/0/a/nut//1=2 o/0/b/nut//1=3 p/0/a/nut//1=3 m/0/a/nut//1=3"}},
		{"a claim twice", books{"a/nut//1=9", "o/s nut=9", "o/0/a/nut//1=2 o/0/a/nut//1=3"}, books{"a/nut//1=9,4", "o/s nut=9", "o/0/a/nut//1=6 o/0/a/nut//1=3"}},
	} {
		allocates(t, c.why, c.from, "o", api.OK, c.then)
	}
}

// TestLines: P16.3, an order's lines in use, one behind the other.
func TestLines(t *testing.T) {
	eight := "tape=9 rope=8 pin=7 pen=6 oil=5 nut=4 milk=3 bolt=2"
	for _, c := range []struct {
		why        string
		from, then books
	}{
		{"no line", books{"a/nut//1=5", "o/s", "p/0/a/nut//1=1"}, books{"a/nut//1=5", "o/s", "p/0/a/nut//1=1"}},
		{"several lines", books{"a/nut//1=5 b/pin//1=2", "o/s nut=4 pin=3 oil=2", ""}, books{"a/nut//1=5,4 b/pin//1=2,2", "o/s nut=4 pin=3,0,1 oil=2,0,2", "o/0/a/nut//1=4 o/1/b/pin//1=2"}},
		{"lines between others", books{"a/nut//1=5 b/pin//1=2", "o/s - nut=4 - - pin=3 -", ""}, books{"a/nut//1=5,4 b/pin//1=2,2", "o/s - nut=4 - - pin=3,0,1 -", "o/1/a/nut//1=4 o/4/b/pin//1=2"}},
		{"the last line alone", books{"a/nut//1=5", "o/s - - - - - - - nut=6", ""}, books{"a/nut//1=5,5", "o/s - - - - - - - nut=6,0,1", "o/7/a/nut//1=5"}},
		{"eight lines, and nothing there", books{"", "o/s " + eight, ""}, books{"", "o/s tape=9,0,9 rope=8,0,8 pin=7,0,7 pen=6,0,6 oil=5,0,5 nut=4,0,4 milk=3,0,3 bolt=2,0,2", ""}},
		{
			"eight lines", books{"a/bolt//1=5 a/milk/a/1=5 a/nut//1=5 a/oil//1=5 a/pen//1=5 a/pin//1=5 a/rope//1=5 a/tape//1=5", "o/s " + eight, ""},
			books{"a/bolt//1=5,2 a/milk/a/1=5,3 a/nut//1=5,4 a/oil//1=5,5 a/pen//1=5,5 a/pin//1=5,5 a/rope//1=5,5 a/tape//1=5,5", "o/s tape=9,0,4 rope=8,0,3 pin=7,0,2 pen=6,0,1 oil=5 nut=4 milk=3 bolt=2",
				"o/0/a/tape//1=5 o/1/a/rope//1=5 o/2/a/pin//1=5 o/3/a/pen//1=5 o/4/a/oil//1=5 o/5/a/nut//1=4 o/6/a/milk/a/1=3 o/7/a/bolt//1=2"},
		},
		{"the same item twice: the first line first", books{"a/nut//1=5", "o/s nut=3 nut=4", ""}, books{"a/nut//1=5,5", "o/s nut=3 nut=4,0,2", "o/0/a/nut//1=3 o/1/a/nut//1=2"}},
		{"the same item twice, and nothing for the second", books{"a/nut//1=5", "o/s nut=6 nut=4", ""}, books{"a/nut//1=5,5", "o/s nut=6,0,1 nut=4,0,4", "o/0/a/nut//1=5"}},
		{"the same item twice, and enough", books{"a/nut//1=5 b/nut//1=5", "o/s nut=3 - nut=4", ""}, books{"a/nut//1=5,5 b/nut//1=5,2", "o/s nut=3 - nut=4", "o/0/a/nut//1=3 o/2/a/nut//1=2 o/2/b/nut//1=2"}},
		{"the same item twice, and nothing wanted of the first", books{"a/nut//1=5", "o/s nut=3,3,1 nut=4", ""}, books{"a/nut//1=5,4", "o/s nut=3,3 nut=4", "o/1/a/nut//1=4"}},
		{"a line is not in use, whatever its numbers", books{"a///1=5 a/nut//1=5", "o/s =7,1,5,3,4 nut=6", ""}, books{"a///1=5 a/nut//1=5,5", "o/s =7,1,5,3,4 nut=6,0,1", "o/1/a/nut//1=5"}},
		{"a line's other numbers stay", books{"a/nut//1=5", "o/s nut=9,3,2,5,7", ""}, books{"a/nut//1=5,5", "o/s nut=9,3,1,5,7", "o/0/a/nut//1=5"}},
		{"other orders stay", books{"a/nut//1=5", "m/s nut=9,0,4; o/s nut=3; p/s nut=9,0,4", ""}, books{"a/nut//1=5,3", "m/s nut=9,0,4; o/s nut=3; p/s nut=9,0,4", "o/0/a/nut//1=3"}},
		{"orders in no order", books{"a/nut//1=5", "p/s nut=9; a/s nut=9; o/s nut=6; b/s nut=9", ""}, books{"a/nut//1=5,5", "p/s nut=9; a/s nut=9; o/s nut=6,0,1; b/s nut=9", "o/0/a/nut//1=5"}},
		{"an order twice: the first", books{"a/nut//1=5 a/pin//1=5", "o/s nut=6; o/t pin=2", ""}, books{"a/nut//1=5,5 a/pin//1=5", "o/s nut=6,0,1; o/t pin=2", "o/0/a/nut//1=5"}},
	} {
		allocates(t, c.why, c.from, "o", api.OK, c.then)
	}
	allocates(t, "an order without a code", books{"a/nut//1=5", "/s nut=6", ""}, "", api.OK, books{"a/nut//1=5,5", "/s nut=6,0,1", "/0/a/nut//1=5"})
}

// TestNoOrder: P16.3 and P16.4, an order that is not there, whatever its claims.
func TestNoOrder(t *testing.T) {
	for _, call := range []func(api.House, string) (api.House, api.Errno){Allocate, Drop} {
		for _, orders := range []string{"", "m/s nut=1; p/s nut=1", "O/s nut=1", "oo/s nut=1", " /s nut=1", "nut/o nut=1"} {
			g, e := call(with("a/nut//1=5,1", orders, "o/0/a/nut//1=1").house(), "o")
			outcome(t, "no order o among "+orders, g, e, zero, api.ErrNone)
		}
		for _, code := range []string{"", "O", "oo", " o", "s", "nut", "\x00", strings.Repeat("o", 300)} {
			g, e := call(with("a/nut//1=5", "o/s nut=1", "").house(), code)
			outcome(t, "no order "+strconv.Quote(code), g, e, zero, api.ErrNone)
			g, e = call(zero, code)
			outcome(t, "no order "+strconv.Quote(code)+" in an empty house", g, e, zero, api.ErrNone)
		}
	}
}

// full is a house of books with claims of other orders, so that it has n.
func full(b books, n int) api.House {
	h := b.house()
	h.Claims = append(h.Claims, manyClaims(n-len(h.Claims))...)
	return h
}

// TestFullAllocate: P16.3, a claim for which there is no room; one that is there already needs none.
func TestFullAllocate(t *testing.T) {
	one, two := "a/nut//1=5", "a/nut//1=5 b/nut//1=5"
	for _, c := range []struct {
		why        string
		from, then books
		most       int
	}{
		{"one new claim", books{one, "o/s nut=3", ""}, books{"a/nut//1=5,3", "o/s nut=3", "o/0/a/nut//1=3"}, 127},
		{"two new claims", books{two, "o/s nut=7", ""}, books{"a/nut//1=5,5 b/nut//1=5,2", "o/s nut=7", "o/0/a/nut//1=5 o/0/b/nut//1=2"}, 126},
		{"two new claims of two lines", books{"a/nut//1=5 a/pin//1=5", "o/s nut=3 pin=6", ""}, books{"a/nut//1=5,3 a/pin//1=5,5", "o/s nut=3 pin=6,0,1", "o/0/a/nut//1=3 o/1/a/pin//1=5"}, 126},
		{"more of a claim", books{"a/nut//1=5,1", "o/s nut=3", "o/0/a/nut//1=1"}, books{"a/nut//1=5,3", "o/s nut=3", "o/0/a/nut//1=3"}, 400},
		{"more of a claim, and a new one", books{"a/nut//1=5,1 b/nut//1=5", "o/s nut=7", "o/0/a/nut//1=1"}, books{"a/nut//1=5,5 b/nut//1=5,2", "o/s nut=7", "o/0/a/nut//1=5 o/0/b/nut//1=2"}, 127},
		{"a claim of a task, and a new one", books{"a/nut//1=5,1", "o/s nut=3", "o/0/a/nut//1=1,7"}, books{"a/nut//1=5,3", "o/s nut=3", "o/0/a/nut//1=2 o/0/a/nut//1=1,7"}, 127},
		{"nothing there", books{"", "o/s nut=3", ""}, books{"", "o/s nut=3,0,3", ""}, 400},
		{"nothing wanted", books{one, "o/s nut=3,3", ""}, books{one, "o/s nut=3,3", ""}, 400},
	} {
		added := strings.Count(c.then.claims, "=") - strings.Count(c.from.claims, "=")
		for _, n := range []int{100, 125, 126, 127, 128, 129, 400} {
			want := api.OK
			if n > c.most {
				want = api.ErrFull
			}
			g, e := Allocate(full(c.from, n), "o")
			outcome(t, c.why+" beside "+strconv.Itoa(n), g, e, full(c.then, n+added), want)
		}
	}
}

// TestHoldErrors: P16.3, an error of stock.Hold is that of Allocate, in whatever line; it is ahead of Claim's.
func TestHoldErrors(t *testing.T) {
	for _, c := range []struct {
		why  string
		from books
		want api.Errno
	}{
		{"more than may be held", books{"a/nut//1=1000000001", "o/s nut=1000000001", ""}, api.ErrQty},
		{"more than may be held, in the last line", books{"a/nut//1=1000000001 a/pin//1=1", "o/s pin=1 - - - - - - nut=1000000001", ""}, api.ErrQty},
		{"more than may be held, ahead of a claim without room", books{"a/nut//1=1000000001", "o/s nut=1000000001", "full"}, api.ErrQty},
		{"a claim without room, ahead of more than may be held", books{"a/nut//1=5 b/nut//1=1000000001", "o/s nut=1000000009", "full"}, api.ErrFull},
		{"a claim without room, ahead of more than may be held, in another line", books{"a/nut//1=1000000001 a/pin//1=1", "o/s pin=1 nut=1000000001", "full"}, api.ErrFull},
		{"a quant twice, and both are wanted", books{"a/nut//1=5 a/nut//1=3", "o/s nut=6", ""}, api.ErrHeld},
		{"a quant twice, and the first has nothing free", books{"a/nut//1=5,5 a/nut//1=3", "o/s nut=1", ""}, api.ErrHeld},
		{"less than nothing is held", books{"a/nut//1=0,-3", "o/s nut=2", ""}, api.ErrHeld},
		{"nothing is left of a quant that is there twice", books{"a/nut//1=0,-3 a/nut//1=9,9", "o/s nut=3", ""}, api.OK},
	} {
		claims := c.from.claims
		if claims == "full" {
			c.from.claims = ""
		}
		h := c.from.house()
		if claims == "full" {
			h = full(c.from, 128)
		}
		g, e := Allocate(h, "o")
		errno(t, c.why, e, c.want)
		if e != api.OK {
			same(t, c.why+": the house beside the error", g, zero)
		}
	}
	// What is asked beyond the most, of quants that are each below it, is held.
	allocates(t, "twice the most", books{"a/nut//1=1000000000 b/nut//1=1000000000", "o/s nut=2000000001", ""}, "o", api.OK,
		books{"a/nut//1=1000000000,1000000000 b/nut//1=1000000000,1000000000", "o/s nut=2000000001,0,1", "o/0/a/nut//1=1000000000 o/0/b/nut//1=1000000000"})
}

// TestAgain: P16.3, an order that is allocated again takes what there is more, and nothing where there is nothing.
func TestAgain(t *testing.T) {
	h := with("a/nut//1=5 b/pin//1=1", "o/s nut=8 pin=2; p/s nut=4", "").house()
	for _, c := range []struct {
		why, more, code string
		then            books
	}{
		{"too little", "", "o", books{"a/nut//1=5,5 b/pin//1=1,1", "o/s nut=8,0,3 pin=2,0,1; p/s nut=4", "o/0/a/nut//1=5 o/1/b/pin//1=1"}},
		{"again, with none", "", "o", books{"a/nut//1=5,5 b/pin//1=1,1", "o/s nut=8,0,3 pin=2,0,1; p/s nut=4", "o/0/a/nut//1=5 o/1/b/pin//1=1"}},
		{"another order, with none", "", "p", books{"a/nut//1=5,5 b/pin//1=1,1", "o/s nut=8,0,3 pin=2,0,1; p/s nut=4,0,4", "o/0/a/nut//1=5 o/1/b/pin//1=1"}},
		{"again, with one more", "a/nut//1=6,5 b/pin//1=1,1", "o", books{"a/nut//1=6,6 b/pin//1=1,1", "o/s nut=8,0,2 pin=2,0,1; p/s nut=4,0,4", "o/0/a/nut//1=6 o/1/b/pin//1=1"}},
		{"again, with more than enough", "a/nut//1=6,6 b/pin//1=3,1 c/nut//1=9", "o", books{"a/nut//1=6,6 b/pin//1=3,2 c/nut//1=9,2", "o/s nut=8 pin=2; p/s nut=4,0,4", "o/0/a/nut//1=6 o/0/c/nut//1=2 o/1/b/pin//1=2"}},
		{"again, with nothing wanted", "", "o", books{"a/nut//1=6,6 b/pin//1=3,2 c/nut//1=9,2", "o/s nut=8 pin=2; p/s nut=4,0,4", "o/0/a/nut//1=6 o/0/c/nut//1=2 o/1/b/pin//1=2"}},
		{"another order, with what is left", "", "p", books{"a/nut//1=6,6 b/pin//1=3,2 c/nut//1=9,6", "o/s nut=8 pin=2; p/s nut=4", "o/0/a/nut//1=6 o/0/c/nut//1=2 o/1/b/pin//1=2 p/0/c/nut//1=4"}},
	} {
		if c.more != "" {
			h.Quants = listOf(c.more, quantOf)
		}
		g, e := Allocate(h, c.code)
		outcome(t, c.why, g, e, c.then.house(), api.OK)
		h = g
	}
}

// TestBack: P16.5, what is backordered of the first line is what is wanted and not open, for each quantity about what is open.
func TestBack(t *testing.T) {
	for open := range 12 {
		for wanted := -2; wanted < 15; wanted++ {
			from := books{"a/nut//1=9,9 b/nut//1=" + strconv.Itoa(open/2+3) + ",3 c/nut//1=" + strconv.Itoa(open-open/2+4) + ",4", "o/s - nut=" + strconv.Itoa(wanted+6) + ",2,9 nut=1", "o/1/a/nut//1=4,7"}
			h := from.house()
			if n := index.Open(h, "s", "nut"); n != open {
				t.Fatalf("%d nuts are open, want %d", n, open)
			}
			g, e := Allocate(h, "o")
			errno(t, "Allocate", e, api.OK)
			what := strconv.Itoa(wanted) + " wanted of " + strconv.Itoa(open)
			if back, want := g.Orders[0].Lines[1].Back, max(0, wanted-open); back != want {
				t.Errorf("%s: %d are backordered, want %d", what, back, want)
			}
			taken := max(0, min(open, wanted))
			if n := Claimed(g, "o", 1); n != 4+taken {
				t.Errorf("%s: %d are claimed, want %d", what, n, 4+taken)
			}
			if n, left := index.Open(g, "s", "nut"), max(0, open-taken-1); n != left {
				t.Errorf("%s: %d are left, want %d", what, n, left)
			}
			if slices.ContainsFunc(g.Quants, func(q api.Quant) bool { return q.Held > q.Qty }) {
				t.Errorf("%s: more is held than there is: %+v", what, g.Quants)
			}
		}
	}
}
