package inbound

import (
	"math"
	"strconv"
	"strings"
	"testing"

	"stevedore/api"
)

// receipt is a house in words and what comes there, and what comes of it: then is the house's quants, notices and totals behind it.
type receipt struct {
	why, quants, notices, totals, came  string
	want                                api.Errno
	thenQuants, thenNotices, thenTotals string
}

// receives makes every receipt of some cases, in a house that is the usual one but for what a case names.
func receives(t *testing.T, usual words, cases []receipt) {
	t.Helper()
	for _, c := range cases {
		w, then := usual, usual
		w.quants, w.notices, w.totals = c.quants, c.notices, c.totals
		then.quants, then.notices, then.totals = c.thenQuants, c.thenNotices, c.thenTotals
		h := w.house()
		what := c.why + ": Receive of " + c.came
		g, e := Receive(h, cameOf(c.came))
		outcome(t, what, g, e, then.house(), c.want)
		same(t, what+": the house that was passed", h, w.house())
	}
}

// refused checks that some things that come in the usual house are refused.
func refused(t *testing.T, w words, want api.Errno, came ...string) {
	t.Helper()
	for _, c := range came {
		h := w.house()
		g, e := Receive(h, cameOf(c))
		outcome(t, "Receive of "+c, g, e, zero, want)
		same(t, "Receive of "+c+": the house that was passed", h, w.house())
	}
}

// TestReceive: P14.3, the quant, the line and the total behind it.
func TestReceive(t *testing.T) {
	receives(t, usual(), []receipt{
		{"the first", "", "n/s nut=20", "", "n nut each 5 - d", api.OK, "d/nut//1=5", "n/s nut=20,5", "nut/=5"},
		{"more of it", "d/nut//1=5", "n/s nut=20,5", "nut/=5", "n nut each 3 - d", api.OK, "d/nut//1=8", "n/s nut=20,8", "nut/=8"},
		{"more of it, of which some is held", "d/nut//1=5,4", "n/s nut=20,5", "nut/=5", "n nut each 3 - d", api.OK, "d/nut//1=8,4", "n/s nut=20,8", "nut/=8"},
		{"all", "", "n/s nut=20", "", "n nut each 20 - d", api.OK, "d/nut//1=20", "n/s nut=20,20", "nut/=20"},
		{"all that is left", "", "n/s nut=20,19", "", "n nut each 1 - d", api.OK, "d/nut//1=1", "n/s nut=20,20", "nut/=1"},
		{"a unit", "", "n/s nut=20", "", "n nut box 1 - d", api.OK, "d/nut//1=12", "n/s nut=20,12", "nut/=12"},
		{"several of a unit", "", "n/s nut=99", "", "n nut box 8 - d", api.OK, "d/nut//1=96", "n/s nut=99,96", "nut/=96"},
		{"a unit, all that is left", "", "n/s nut=20,8", "", "n nut box 1 - d", api.OK, "d/nut//1=12", "n/s nut=20,20", "nut/=12"},
		{"at the other dock", "d/nut//1=5", "n/s nut=20,5", "nut/=5", "n nut each 3 - e", api.OK, "d/nut//1=5 e/nut//1=3", "n/s nut=20,8", "nut/=8"},
		{"at another site", "", "n/t nut=20", "", "n nut each 5 - g", api.OK, "g/nut//1=5", "n/t nut=20,5", "nut/=5"},
		{"beside other bins, items and statuses", "c/nut//1=1 d/milk/a/2=2 d/nut//2=3 e/nut//1=4", "n/s nut=20", "", "n nut each 5 - d", api.OK, "c/nut//1=1 d/milk/a/2=2 d/nut//1=5 d/nut//2=3 e/nut//1=4", "n/s nut=20,5", "nut/=5"},

		// What is checked is held first, what is not is free.
		{"checked, in a lot", "", "n/s milk=30", "", "n milk each 4 a d", api.OK, "d/milk/a/2=4", "n/s milk=30,4", "milk/a=4"},
		{"checked, in another lot", "d/milk/a/2=4", "n/s milk=30,4", "milk/a=4", "n milk each 5 b d", api.OK, "d/milk/a/2=4 d/milk/b/2=5", "n/s milk=30,9", "milk/a=4 milk/b=5"},
		{"checked, beside some that is free", "d/milk/a/1=4", "n/s milk=30,4", "milk/a=4", "n milk box 1 a d", api.OK, "d/milk/a/1=4 d/milk/a/2=12", "n/s milk=30,16", "milk/a=16"},
		{"checked, without lots", "", "n/s pill=5", "", "n pill each 5 - d", api.OK, "d/pill//2=5", "n/s pill=5,5", "pill/=5"},
		{"not checked, in a lot", "", "n/s pump=2", "", "n pump each 1 1 d", api.OK, "d/pump/1/1=1", "n/s pump=2,1", "pump/1=1"},
		{"not checked, in another lot", "d/pump/1/1=1", "n/s pump=2,1", "pump/1=1", "n pump each 1 2 d", api.OK, "d/pump/1/1=1 d/pump/2/1=1", "n/s pump=2,2", "pump/1=1 pump/2=1"},
		{"not checked, beside some that is held or broken", "d/nut//2=3 d/nut//3=4", "n/s nut=20", "", "n nut each 5 - d", api.OK, "d/nut//1=5 d/nut//2=3 d/nut//3=4", "n/s nut=20,5", "nut/=5"},

		// The lines of a notice, and the notices of a house.
		{"behind lines that are not in use", "", "n/s - - nut=20 -", "", "n nut each 5 - d", api.OK, "d/nut//1=5", "n/s - - nut=20,5 -", "nut/=5"},
		{"the last line", "", "n/s milk=1 - - - - - - nut=20", "", "n nut each 5 - d", api.OK, "d/nut//1=5", "n/s milk=1 - - - - - - nut=20,5", "nut/=5"},
		{"the first line", "", "n/s nut=20 - - - - - - milk=1", "", "n nut each 5 - d", api.OK, "d/nut//1=5", "n/s nut=20,5 - - - - - - milk=1", "nut/=5"},
		{"between others", "", "n/s milk=7,2 nut=20,1 pump=2,2", "", "n nut each 5 - d", api.OK, "d/nut//1=5", "n/s milk=7,2 nut=20,6 pump=2,2", "nut/=5"},
		{"lines not in use with numbers", "", "n/s =99,1 nut=20 =99", "", "n nut each 5 - d", api.OK, "d/nut//1=5", "n/s =99,1 nut=20,5 =99", "nut/=5"},
		{"a line with other numbers", "", "n/s nut=20,1,2,3,4", "", "n nut each 5 - d", api.OK, "d/nut//1=5", "n/s nut=20,6,2,3,4", "nut/=5"},
		{"two lines of the item: the first", "", "n/s nut=20 nut=30,3", "", "n nut each 5 - d", api.OK, "d/nut//1=5", "n/s nut=20,5 nut=30,3", "nut/=5"},
		{"two lines of the item: the first, however little is left", "", "n/s nut=20,20 nut=30", "", "n nut each 1 - d", api.ErrOver, "", "", ""},
		{"two lines of the item, behind one that is not in use", "", "n/s =30 nut=20 nut=1", "", "n nut each 5 - d", api.OK, "d/nut//1=5", "n/s =30 nut=20,5 nut=1", "nut/=5"},
		{"among other notices", "", "m/s nut=20; n/s nut=20; o/s nut=20", "", "n nut each 5 - d", api.OK, "d/nut//1=5", "m/s nut=20; n/s nut=20,5; o/s nut=20", "nut/=5"},
		{"beside a shut one", "", "m/s! nut=20; n/s nut=20", "", "n nut each 5 - d", api.OK, "d/nut//1=5", "m/s! nut=20; n/s nut=20,5", "nut/=5"},
		{"notices in no order", "", "p/s nut=20; a/s nut=20; n/s nut=20; b/s nut=20", "", "n nut each 5 - d", api.OK, "d/nut//1=5", "p/s nut=20; a/s nut=20; n/s nut=20,5; b/s nut=20", "nut/=5"},
		{"the notice twice: the first", "", "n/s nut=20; n/s nut=20", "", "n nut each 5 - d", api.OK, "d/nut//1=5", "n/s nut=20,5; n/s nut=20", "nut/=5"},
		{"the notice twice, the second one shut and of another site", "", "n/s nut=20; n/t! nut=1", "", "n nut each 5 - d", api.OK, "d/nut//1=5", "n/s nut=20,5; n/t! nut=1", "nut/=5"},
		{"the notice twice, the first one without the item", "", "n/s milk=20; n/s nut=20", "", "n nut each 5 - d", api.ErrNone, "", "", ""},

		// Totals.
		{"a total with other counters", "", "n/s nut=20", "nut/=9,8,7,-6", "n nut each 5 - d", api.OK, "d/nut//1=5", "n/s nut=20,5", "nut/=14,8,7,-6"},
		{"a total that is 0", "", "n/s nut=20", "nut/=0", "n nut each 5 - d", api.OK, "d/nut//1=5", "n/s nut=20,5", "nut/=5"},
		{"a total that comes to 0", "", "n/s nut=20", "nut/=-5", "n nut each 5 - d", api.OK, "d/nut//1=5", "n/s nut=20,5", "nut/=0"},
		{"a new total ahead of others", "", "n/s bolt=20", "milk/a=1 nut/=2", "n bolt each 5 - d", api.OK, "d/bolt//1=5", "n/s bolt=20,5", "bolt/=5 milk/a=1 nut/=2"},
		{"a new total between others", "", "n/s milk=20", "bolt/=1 milk/a=2 milk/c=3 nut/=4", "n milk each 5 b d", api.OK, "d/milk/b/2=5", "n/s milk=20,5", "bolt/=1 milk/a=2 milk/b=5 milk/c=3 nut/=4"},
		{"a new total behind others", "", "n/s tile=20", "milk/z=1 nut/=2", "n tile each 5 - d", api.OK, "d/tile//1=5", "n/s tile=20,5", "milk/z=1 nut/=2 tile/=5"},
		{"a total of the item alone, or of the lot alone", "", "n/s milk=20", "milk/=1 milk/b=2 nut/a=3", "n milk each 5 a d", api.OK, "d/milk/a/2=5", "n/s milk=20,5", "milk/=1 milk/a=5 milk/b=2 nut/a=3"},
		{"totals in no order", "", "n/s nut=20", "tile/=1 bolt/=2 nut/=3 milk/a=4", "n nut each 5 - d", api.OK, "d/nut//1=5", "n/s nut=20,5", "tile/=1 bolt/=2 nut/=8 milk/a=4"},
		{"totals in no order, and a new one", "", "n/s nut=20", "tile/=1 bolt/=2 milk/a=4", "n nut each 5 - d", api.OK, "d/nut//1=5", "n/s nut=20,5", "nut/=5 tile/=1 bolt/=2 milk/a=4"},
		{"a total twice: the first", "", "n/s nut=20", "nut/=1 nut/=2", "n nut each 5 - d", api.OK, "d/nut//1=5", "n/s nut=20,5", "nut/=6 nut/=2"},

		// Quants.
		{"quants in no order", "e/nut//1=1 d/nut//1=2 c/nut//1=3", "n/s nut=20", "", "n nut each 5 - d", api.OK, "e/nut//1=1 d/nut//1=7 c/nut//1=3", "n/s nut=20,5", "nut/=5"},
		{"a quant twice: the first", "d/nut//1=2,1 d/nut//1=3", "n/s nut=20", "", "n nut each 5 - d", api.OK, "d/nut//1=7,1 d/nut//1=3", "n/s nut=20,5", "nut/=5"},
		{"the most of a quant", "d/tile//1=999999995", "n/s tile=20", "", "n tile each 5 - d", api.OK, "d/tile//1=1000000000", "n/s tile=20,5", "tile/=5"},
		{"more than the most of a quant", "d/tile//1=999999996", "n/s tile=20", "", "n tile each 5 - d", api.ErrQty, "", "", ""},
		{"the most at once", "", "n/s tile=1000000000", "", "n tile each 1000000000 - d", api.OK, "d/tile//1=1000000000", "n/s tile=1000000000,1000000000", "tile/=1000000000"},
		{"a quant that is gone with that", "d/nut//1=-5", "n/s nut=20", "", "n nut each 5 - d", api.OK, "", "n/s nut=20,5", "nut/=5"},
	})
}

// TestExample: the document's example, step by step.
func TestExample(t *testing.T) {
	w := words{items: "nut=0,0", zones: "z/s", bins: "d/z=0,0", notices: "n/s nut=20"}
	for _, c := range []struct {
		came               string
		want               api.Errno
		stand, done, total string
	}{
		{"n nut box 1 - d", api.OK, "d/nut//1=12", "n/s nut=20,12", "nut/=12"},
		{"n nut box 1 - d", api.ErrOver, "", "", ""},
		{"n nut each 8 - d", api.OK, "d/nut//1=20", "n/s nut=20,20", "nut/=20"},
		{"n nut each 1 - d", api.ErrOver, "", "", ""},
	} {
		g, e := Receive(w.house(), cameOf(c.came))
		then := w
		then.quants, then.notices, then.totals = c.stand, c.done, c.total
		outcome(t, "Receive of "+c.came, g, e, then.house(), c.want)
		if c.want == api.OK {
			w = then
		}
	}
}

// TestRefused: P14.3, each error by itself.
func TestRefused(t *testing.T) {
	w := usual()
	refused(t, w, api.ErrNone, "x nut each 1 - d", "- nut each 1 - d", "N nut each 1 - d", "nn nut each 1 - d", "s nut each 1 - d")
	refused(t, w, api.ErrState, "o nut each 1 - d", "o wine each 1 - d", "o - - 0 - -")
	refused(t, w, api.ErrNone, "n bolt each 1 - d", "n wine each 1 - d", "n - each 1 - d", "n NUT each 1 - d", "n nu each 1 - d", "n nuts each 1 - d", "n a each 1 a d", "p milk each 1 a g")
	refused(t, w, api.ErrUnit, "n nut bag 1 - d", "n nut - 1 - d", "n nut Each 1 - d", "n nut boxes 1 - d", "n nut bag 0 - d", "n nut nut 1 - d")
	refused(t, w, api.ErrQty, "n nut each 0 - d", "n nut each -1 - d", "n nut box 0 - d", "n nut box -1 - d", "n nut each 1000000001 - d", "n nut box 83333334 - d", "n nut case 76861433640456466 - d", "n nut each -9223372036854775808 - d")
	refused(t, w, api.ErrLot, "n nut each 1 a d", "n milk each 1 - d", "n milk each 1 c d", "n milk each 1 1 d", "n milk each 1 A d", "n pump each 1 - d", "n pump each 1 3 d", "n pill each 1 a d")
	refused(t, w, api.ErrSerial, "n pump each 2 1 d", "n pump box 1 2 d", "n pump each 3 1 d")
	refused(t, w, api.ErrOver, "n nut each 21 - d", "n nut box 2 - d", "n nut case 1 - d", "n nut each 1000000000 - d", "n nut box 83333333 - d", "n milk each 31 a d", "n pill each 6 - d", "p nut each 2 - g", "p nut box 1 - g")
	refused(t, w, api.ErrNone, "n nut each 1 - x", "n nut each 1 - -", "n nut each 1 - D", "n nut each 1 - dd", "n nut each 1 - z")
	refused(t, w, api.ErrKind, "n nut each 1 - s", "n nut each 1 - c", "n nut each 1 - k", "n nut each 1 - t", "p nut each 1 - t", "p nut each 1 - s")
	refused(t, w, api.ErrSite, "n nut each 1 - g", "n milk each 1 a g", "p nut each 1 - d", "p nut each 1 - e", "p nut each 1 - f")
	refused(t, w, api.ErrFrozen, "n nut each 1 - f", "n nut each 20 - f", "n milk each 1 a f")

	// A serial piece that stands anywhere in the house is there.
	for _, q := range []string{"d/pump/1/1=1", "t/pump/1/3=1", "gone/pump/1/0=1"} {
		w.quants = q
		refused(t, w, api.ErrSerial, "n pump each 1 1 d")
	}
	w.quants = "d/pump/2/1=1"
	if _, e := Receive(w.house(), cameOf("n pump each 1 1 d")); e != api.OK {
		t.Errorf("another serial piece is there, and %d comes of it", int(e))
	}

	// A line of an item that the house has not any more.
	w = usual()
	w.items = "bolt=2,3 milk=1,0:lc"
	refused(t, w, api.ErrNone, "n nut each 1 - d", "n nut bag 0 - d")
	// A line that is not in use is none of an item without a code.
	nameless := w.house()
	nameless.Items, nameless.Notices = []api.Item{{}}, noticesOf("n/s =20")
	g, e := Receive(nameless, Came{Notice: "n", Unit: "each", N: 1, Dock: "d"})
	outcome(t, "an item without a code", g, e, zero, api.ErrNone)
	g, e = Receive(zero, Came{})
	outcome(t, "a house without anything", g, e, zero, api.ErrNone)
}

// TestKind: P14.3 and P14.5, of all kinds of bins only a dock takes in, or gives off to be stowed.
func TestKind(t *testing.T) {
	for _, kind := range []int{math.MinInt, -1, 0, 1, 2, 3, 4, 5, math.MaxInt} {
		want := api.ErrKind
		if kind == 2 {
			want = api.OK
		}
		w := usual()
		w.bins, w.quants = "d/z=99,99#"+strconv.Itoa(kind)+" s/z=50,50#1", "d/nut//1=5"
		_, e := Receive(w.house(), cameOf("n nut each 1 - d"))
		errno(t, "Receive at the kind "+strconv.Itoa(kind), e, want)
		_, _, e = Stow(w.house(), keyOf("d/nut//1"), 1)
		errno(t, "Stow from the kind "+strconv.Itoa(kind), e, want)
	}
}

// TestSite: P14.3, the dock's site is that of the notice: by the first zone of the dock's, and that of the first dock.
func TestSite(t *testing.T) {
	for _, c := range []struct {
		why, zones, bins string
		want             api.Errno
	}{
		{"another zone of the site", "w/t y/s z/s", "d/y=9,9", api.OK},
		{"a zone of another site", "w/t y/s z/s", "d/w=9,9", api.ErrSite},
		{"a zone that is not there", "w/t y/s z/s", "d/x=9,9", api.ErrSite},
		{"no zone", "w/t y/s z/s", "d/=9,9", api.ErrSite},
		{"the site as a zone", "w/t y/s z/s", "d/s=9,9", api.ErrSite},
		{"a site in another case", "z/S", "d/z=9,9", api.ErrSite},
		{"the zone twice, the first one of the site", "z/s z/t", "d/z=9,9", api.OK},
		{"the zone twice, the second one of the site", "z/t z/s", "d/z=9,9", api.ErrSite},
		{"the dock twice, the first one at the site", "z/s y/t", "d/z=9,9 d/y=9,9", api.OK},
		{"the dock twice, the second one at the site", "z/s y/t", "d/y=9,9 d/z=9,9", api.ErrSite},
		{"the dock twice, the second one frozen", "z/s", "d/z=9,9 d/z=9,9!", api.OK},
		{"the dock twice, the first one frozen", "z/s", "d/z=9,9! d/z=9,9", api.ErrFrozen},
		{"the dock twice, the second one a shelf", "z/s", "d/z=9,9 d/z=9,9#1", api.OK},
		{"the dock twice, the first one a shelf", "z/s", "d/z=9,9#1 d/z=9,9", api.ErrKind},
		{"the dock twice, the second one full", "z/s", "d/z=9,9 d/z=0,0", api.OK},
		{"the dock twice, the first one full", "z/s", "d/z=0,0 d/z=9,9", api.ErrBinFull},
		{"bins in no order", "z/s", "s/z=9,9#1 e/z=9,9 d/z=9,9 c/z=9,9#3", api.OK},
	} {
		w := usual()
		w.zones, w.bins = c.zones, c.bins
		_, e := Receive(w.house(), cameOf("n nut each 5 - d"))
		errno(t, c.why, e, c.want)
	}
	// A notice at no site, and a dock at none.
	w := usual()
	w.notices, w.bins = "n/ nut=20", "d/gone=99,99 e/z=99,99"
	_, e := Receive(w.house(), cameOf("n nut each 5 - d"))
	errno(t, "no site, and a dock at none", e, api.OK)
	_, e = Receive(w.house(), cameOf("n nut each 5 - e"))
	errno(t, "no site, and a dock at one", e, api.ErrSite)
}

// TestRoom: P14.3, a dock that the quantity just fills, and one more, by volume and by weight.
func TestRoom(t *testing.T) {
	for _, c := range []struct {
		why, bins, quants, came string
		want                    api.Errno
	}{
		{"just both", "d/z=10,15", "", "n bolt each 5 - d", api.OK},
		{"the volume one too many", "d/z=9,15", "", "n bolt each 5 - d", api.ErrBinFull},
		{"the weight one too many", "d/z=10,14", "", "n bolt each 5 - d", api.ErrBinFull},
		{"one piece more", "d/z=10,15", "", "n bolt each 6 - d", api.ErrBinFull},
		{"a unit that just fills", "d/z=24,36", "", "n bolt box 1 - d", api.OK},
		{"a unit, the volume one too many", "d/z=23,36", "", "n bolt box 1 - d", api.ErrBinFull},
		{"a unit, the weight one too many", "d/z=24,35", "", "n bolt box 1 - d", api.ErrBinFull},
		{"beside what stands there, just both", "d/z=15,20", "d/nut//1=3 d/nut//3=2", "n bolt each 5 - d", api.OK},
		{"beside what stands there, the volume one too many", "d/z=14,20", "d/nut//1=3 d/nut//3=2", "n bolt each 5 - d", api.ErrBinFull},
		{"beside what stands there, the weight one too many", "d/z=15,19", "d/nut//1=3 d/nut//3=2", "n bolt each 5 - d", api.ErrBinFull},
		{"other docks make no difference", "d/z=10,15 e/z=0,0", "e/nut//1=9", "n bolt each 5 - d", api.OK},
		{"what takes no room into a full dock", "d/z=5,5", "d/nut//1=5", "n tile each 20 - d", api.OK},
		{"what takes no room into an overfull dock", "d/z=4,5", "d/nut//1=5", "n tile each 20 - d", api.ErrBinFull},
		{"nothing goes in", "d/z=0,0", "", "n bolt each 1 - d", api.ErrBinFull},
	} {
		w := usual()
		w.bins, w.quants, w.notices = c.bins, c.quants, "n/s bolt=20 tile=20"
		g, e := Receive(w.house(), cameOf(c.came))
		errno(t, c.why, e, c.want)
		if e != api.OK {
			same(t, c.why+": the house", g, zero)
		}
	}
}

// TestLeft: P14.3, what is left of a line is Asked minus Done, whatever numbers these are; where it wraps around, so does it here.
func TestLeft(t *testing.T) {
	for _, c := range []struct {
		asked, done, n int
		want           api.Errno
	}{
		{20, 0, 20, api.OK}, {20, 0, 21, api.ErrOver}, {20, 19, 1, api.OK}, {20, 19, 2, api.ErrOver}, {20, 20, 1, api.ErrOver}, {20, 21, 1, api.ErrOver},
		{20, -5, 25, api.OK}, {20, -5, 26, api.ErrOver}, {0, 0, 1, api.ErrOver}, {-1, 0, 1, api.ErrOver}, {-1, -2, 1, api.OK}, {-1, -2, 2, api.ErrOver},
		{1000000000, 0, 1000000000, api.OK}, {1000000000, 1, 1000000000, api.ErrOver}, {1000000000, 999999999, 1, api.OK}, {1000000000, 1000000000, 1, api.ErrOver},
		{math.MaxInt, 0, 1000000000, api.OK}, {math.MaxInt, math.MaxInt, 1, api.ErrOver}, {math.MaxInt, -1, 1, api.ErrOver}, {math.MinInt, 1, 1000000000, api.OK}, {0, math.MinInt, 1, api.ErrOver}, {math.MinInt, math.MinInt + 1, 1, api.ErrOver},
	} {
		w := usual()
		w.totals = "tile/=" + strconv.Itoa(math.MaxInt)
		h := w.house()
		h.Notices[0].Lines[4] = api.Line{Item: "tile", Asked: c.asked, Done: c.done}
		then := w.house()
		then.Quants = []api.Quant{{Key: keyOf("d/tile//1"), Qty: c.n}}
		then.Notices[0].Lines[4] = api.Line{Item: "tile", Asked: c.asked, Done: c.done + c.n}
		then.Totals[0].In += c.n
		h.Notices[0].Lines[5], then.Notices[0].Lines[5] = api.Line{}, api.Line{}
		g, e := Receive(h, Came{Notice: "n", Item: "tile", Unit: "each", N: c.n, Dock: "d"})
		outcome(t, strconv.Itoa(c.n)+" of "+strconv.Itoa(c.asked)+" with "+strconv.Itoa(c.done)+" done", g, e, then, c.want)
	}
}

// crowd is so many quants of a bin that nothing else stands in.
func crowd(n int) []api.Quant {
	var l []api.Quant
	for i := range n {
		l = append(l, api.Quant{Key: api.Key{Bin: "crowd", Item: "i" + strconv.Itoa(1000+i), Status: api.Free}, Qty: 1})
	}
	return l
}

// TestManyQuants: P14.3 and P14.5, how many quants a house may have: one more only where it is there already.
func TestManyQuants(t *testing.T) {
	for _, n := range []int{0, 1, 254, 255, 256, 257} {
		want := api.OK
		if n >= 256 {
			want = api.ErrQuants
		}
		h := usual().house()
		h.Quants = crowd(n)
		_, e := Receive(h, cameOf("n nut each 5 - d"))
		errno(t, strconv.Itoa(n)+" quants, and a new one", e, want)
		if n == 0 {
			continue
		}
		h.Quants[n-1] = quantOf("d/nut//1=3")
		_, e = Receive(h, cameOf("n nut each 5 - d"))
		errno(t, strconv.Itoa(n)+" quants, and more of one", e, api.OK)
		_, e = Receive(h, cameOf("n nut each 5 - e"))
		errno(t, strconv.Itoa(n)+" quants, and one at another dock", e, want)
		_, _, e = Stow(h, keyOf("d/nut//1"), 2)
		errno(t, strconv.Itoa(n)+" quants, and some of one is stowed", e, want)
		_, _, e = Stow(h, keyOf("d/nut//1"), 3)
		errno(t, strconv.Itoa(n)+" quants, and all of one is stowed", e, map[bool]api.Errno{true: api.ErrQuants}[n > 256])
	}
}

// arrival is a house and what comes there.
type arrival struct {
	h api.House
	x Came
}

// change changes the elements of a list that are so.
func change[T any](l []T, is func(x T) bool, to func(x *T)) {
	for i := range l {
		if is(l[i]) {
			to(&l[i])
		}
	}
}

// TestFirstErrorOfReceive: P14.3 and R1, of several errors the first one that the promise names, for each set of them.
func TestFirstErrorOfReceive(t *testing.T) {
	sound := func() arrival { return arrival{usual().house(), cameOf("n nut box 1 - d")} }
	call := func(a arrival) api.Errno {
		g, e := Receive(a.h, a.x)
		if e != api.OK {
			same(t, "the house beside the error", g, zero)
		}
		return e
	}
	notice := func(to func(n *api.Notice)) func(a *arrival) {
		return func(a *arrival) { change(a.h.Notices, func(n api.Notice) bool { return n.Code == "n" }, to) }
	}
	bin := func(to func(b *api.Bin)) func(a *arrival) {
		return func(a *arrival) { change(a.h.Bins, func(b api.Bin) bool { return b.Code == "d" }, to) }
	}
	item := func(to func(x *api.Item)) func(a *arrival) {
		return func(a *arrival) { change(a.h.Items, func(x api.Item) bool { return x.Code == "nut" }, to) }
	}
	noNotice := fault[arrival]{"no notice", func(a *arrival) { a.x.Notice = "x" }, api.ErrNone}
	shut := fault[arrival]{"shut", notice(func(n *api.Notice) { n.Shut = true }), api.ErrState}
	noLine := fault[arrival]{"no line", notice(func(n *api.Notice) { n.Lines[1].Item = "bolt" }), api.ErrNone}
	noItem := fault[arrival]{"no item", item(func(x *api.Item) { x.Code = "gone" }), api.ErrNone}
	noUnit := fault[arrival]{"no unit", func(a *arrival) { a.x.Unit = "bag" }, api.ErrUnit}
	nothing := fault[arrival]{"nothing comes", func(a *arrival) { a.x.N = 0 }, api.ErrQty}
	tooMuch := fault[arrival]{"too much comes", func(a *arrival) { a.x.N = 100000000 }, api.ErrQty}
	noLot := fault[arrival]{"no lot", func(a *arrival) { a.x.Lot = "none" }, api.ErrLot}
	lotMissing := fault[arrival]{"a lot is missing", item(func(x *api.Item) { x.Lots = true }), api.ErrLot}
	serial := fault[arrival]{"serial", item(func(x *api.Item) { x.Serial = true }), api.ErrSerial}
	over := fault[arrival]{"more than was announced", notice(func(n *api.Notice) { n.Lines[1].Done = 9 }), api.ErrOver}
	noDock := fault[arrival]{"no dock", func(a *arrival) { a.x.Dock = "x" }, api.ErrNone}
	kind := fault[arrival]{"a shelf", bin(func(b *api.Bin) { b.Kind = api.Shelf }), api.ErrKind}
	site := fault[arrival]{"another site", bin(func(b *api.Bin) { b.Zone = "w" }), api.ErrSite}
	frozen := fault[arrival]{"frozen", bin(func(b *api.Bin) { b.Frozen = true }), api.ErrFrozen}
	full := fault[arrival]{"no room", bin(func(b *api.Bin) { b.Volume = 11 }), api.ErrBinFull}
	most := fault[arrival]{"the most of the quant", func(a *arrival) {
		a.h.Quants = append(a.h.Quants, quantOf("d/nut//1=1000000000"))
		item(func(x *api.Item) { x.Volume, x.Weight = 0, 0 })(a)
	}, api.ErrQty}
	// The weight takes the room here, since the most of a quant needs an item that takes none.
	heavy := fault[arrival]{"too heavy", bin(func(b *api.Bin) { b.Weight = -1 }), api.ErrBinFull}
	crowded := fault[arrival]{"too many quants", func(a *arrival) { a.h.Quants = append(a.h.Quants, crowd(256)...) }, api.ErrQuants}

	firstErrors(t, "Receive", sound, call, noNotice, shut, noLine, noUnit, nothing, noLot, over, noDock, kind, site, frozen, full, crowded)
	firstErrors(t, "Receive", sound, call, shut, noItem, noUnit, tooMuch, lotMissing, serial, over, kind, site, frozen, heavy, most)
	firstErrors(t, "Receive", sound, call, noNotice, noLine, noItem, nothing, noLot, serial, over, noDock, frozen, heavy, crowded)
}

// TestReceiveAny: P14.3, neither texts of a house nor its lists need be such as commands make.
func TestReceiveAny(t *testing.T) {
	for _, text := range []string{" ", "a b", "\xff", "\x00", strings.Repeat("x", 300)} {
		h := api.House{
			Items: []api.Item{{Code: text, Units: [api.MaxUnits]api.Unit{3: {Name: text, Factor: 7}}, Lots: true, Volume: 1}}, Lots: []api.Lot{{Item: text, Code: text}},
			Zones: []api.Zone{{Code: text, Site: text}}, Bins: []api.Bin{{Code: text, Zone: text, Kind: api.Dock, Volume: 14}},
			Notices: []api.Notice{{Code: text, Site: text, Lines: [api.MaxLines]api.Line{6: {Item: text, Asked: 20}}}},
		}
		then := h
		then.Quants = []api.Quant{{Key: api.Key{Bin: text, Item: text, Lot: text, Status: api.Free}, Qty: 14}}
		then.Notices = []api.Notice{{Code: text, Site: text, Lines: [api.MaxLines]api.Line{6: {Item: text, Asked: 20, Done: 14}}}}
		then.Totals = []api.Total{{Item: text, Lot: text, In: 14}}
		x := Came{Notice: text, Item: text, Unit: text, N: 2, Lot: text, Dock: text}
		g, e := Receive(h, x)
		outcome(t, "Receive of "+strconv.Quote(text), g, e, then, api.OK)
		for i, spoil := range []func(x *Came){
			func(x *Came) { x.Notice += "." }, func(x *Came) { x.Item += "." }, func(x *Came) { x.Unit += "." }, func(x *Came) { x.Lot += "." }, func(x *Came) { x.Dock += "." },
		} {
			x := x
			spoil(&x)
			g, e := Receive(h, x)
			outcome(t, "Receive of another text than "+strconv.Quote(text), g, e, zero, []api.Errno{api.ErrNone, api.ErrNone, api.ErrUnit, api.ErrLot, api.ErrNone}[i])
		}
	}
	// Empty texts, where a house has such a notice, lot and dock.
	h := api.House{
		Items: []api.Item{{Code: "nut", Lots: true}}, Lots: []api.Lot{{Item: "nut"}}, Bins: []api.Bin{{Kind: api.Dock}},
		Notices: []api.Notice{{Lines: linesOf("nut=5")}},
	}
	then := h
	then.Quants, then.Notices, then.Totals = listOf("/nut//1=5", quantOf), []api.Notice{{Lines: linesOf("nut=5,5")}}, listOf("nut/=5", totalOf)
	g, e := Receive(h, Came{Item: "nut", Unit: "each", N: 5})
	outcome(t, "empty texts", g, e, then, api.OK)
}
