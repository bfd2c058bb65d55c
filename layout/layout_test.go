package layout

import (
	"math"
	"reflect"
	"slices"
	"strconv"
	"strings"
	"testing"

	"stevedore/api"
)

// zero is a house without anything: the one beside an error.
var zero api.House

// zonesOf makes zones of words like "cold/north": the code and the site.
func zonesOf(text string) []api.Zone {
	var l []api.Zone
	for _, w := range strings.Fields(text) {
		code, site, _ := strings.Cut(w, "/")
		l = append(l, api.Zone{Code: code, Site: site})
	}
	return l
}

// zoneOf makes a zone of a word.
func zoneOf(word string) api.Zone { return zonesOf(word)[0] }

// binsOf makes bins of words like "b1/cold/7*": the code, the zone, an aisle that tells bins of one code apart, and a star if it is frozen.
func binsOf(text string) []api.Bin {
	var l []api.Bin
	for _, w := range strings.Fields(text) {
		w, frozen := strings.CutSuffix(w, "*")
		f := append(strings.Split(w, "/"), "", "")
		aisle, _ := strconv.Atoi(f[2])
		l = append(l, api.Bin{Code: f[0], Zone: f[1], Kind: api.Shelf, Aisle: aisle, Volume: 10, Weight: 20, Frozen: frozen})
	}
	return l
}

// binOf makes a bin of a word.
func binOf(word string) api.Bin { return binsOf(word)[0] }

// cart is a bin that fills each field.
func cart() api.Bin {
	return api.Bin{Code: "b", Zone: "z", Kind: api.Cart, Aisle: 3, Place: 4, Volume: 500, Weight: 600}
}

// with is cart with a change.
func with(change func(*api.Bin)) api.Bin {
	x := cart()
	change(&x)
	return x
}

// code is the i-th of many codes that rise: c000, c002, c004 and so on.
func code(i int) string { return "c" + strconv.Itoa(1000 + 2*i)[1:] }

// manyZones is a sorted list of n zones.
func manyZones(n int) []api.Zone {
	var l []api.Zone
	for i := range n {
		l = append(l, api.Zone{Code: code(i), Site: "s" + strconv.Itoa(i)})
	}
	return l
}

// manyBins is a sorted list of n bins of the zone z.
func manyBins(n int) []api.Bin {
	var l []api.Bin
	for i := range n {
		l = append(l, api.Bin{Code: code(i), Zone: "z", Kind: 1 + i%4, Aisle: i})
	}
	return l
}

// houseOf is a house with these zones and bins, and something in each other list.
func houseOf(zones []api.Zone, bins []api.Bin) api.House {
	k := api.Key{Bin: "bin", Item: "item", Lot: "lot", Status: api.Free}
	return api.House{
		Items:   []api.Item{{Code: "item", Lots: true}},
		Lots:    []api.Lot{{Item: "item", Code: "lot", Expiry: 9}},
		Zones:   zones,
		Bins:    bins,
		Quants:  []api.Quant{{Key: k, Qty: 4, Held: 3}},
		Rules:   []api.Rule{{Item: "item", Zone: "zone", Rank: 1}},
		Notices: []api.Notice{{Code: "notice", Site: "site"}},
		Orders:  []api.Order{{Code: "order", Site: "site"}},
		Claims:  []api.Claim{{Order: "order", Line: 1, Key: k, Qty: 3, Task: 7}},
		Tasks:   []api.Task{{Number: 7, Kind: api.Pick, Order: "order", From: k, To: "cart", Qty: 3}},
		Parcels: []api.Parcel{{Bin: "carton", Order: "order"}},
		Sent:    []api.Sent{{Order: "order", Item: "item", Lot: "lot", Qty: 2, Back: 1}},
		Counted: []api.Counted{{Key: k, Qty: 4}},
		Totals:  []api.Total{{Item: "item", Lot: "lot", In: 6, Out: 2}}, LastTask: 7,
	}
}

// laid is a house of words of zones and bins.
func laid(zones, bins string) api.House { return houseOf(zonesOf(zones), binsOf(bins)) }

// errno checks an error.
func errno(t *testing.T, what string, got, want api.Errno) {
	t.Helper()
	if got != want {
		t.Errorf("%s = %d, want %d", what, int(got), int(want))
	}
}

// same checks two houses, all of their lists; an empty list may be nil or not.
func same(t *testing.T, what string, got, want api.House) {
	t.Helper()
	if len(got.Zones) == 0 && len(want.Zones) == 0 {
		got.Zones, want.Zones = nil, nil
	}
	if len(got.Bins) == 0 && len(want.Bins) == 0 {
		got.Bins, want.Bins = nil, nil
	}
	if !reflect.DeepEqual(got, want) {
		t.Errorf("%s is %+v, want %+v", what, got, want)
	}
}

// refused checks that a call answered an error, and nothing beside it.
func refused(t *testing.T, what string, g api.House, e, want api.Errno) {
	t.Helper()
	errno(t, what, e, want)
	same(t, what+": the house beside the error", g, zero)
}

// refusesZone checks that AddZone answers an error.
func refusesZone(t *testing.T, what string, h api.House, x api.Zone, want api.Errno) {
	t.Helper()
	g, e := AddZone(h, x)
	refused(t, what, g, e, want)
}

// refusesBin checks that AddBin answers an error.
func refusesBin(t *testing.T, what string, h api.House, x api.Bin, want api.Errno) {
	t.Helper()
	g, e := AddBin(h, x)
	refused(t, what, g, e, want)
}

// addZone adds a zone, which must go well.
func addZone(t *testing.T, what string, h api.House, x api.Zone) api.House {
	t.Helper()
	g, e := AddZone(h, x)
	errno(t, what, e, api.OK)
	return g
}

// addBin adds a bin, which must go well.
func addBin(t *testing.T, what string, h api.House, x api.Bin) api.House {
	t.Helper()
	g, e := AddBin(h, x)
	errno(t, what, e, api.OK)
	return g
}

// freeze freezes a bin or ends that, which must go well.
func freeze(t *testing.T, h api.House, code string, on bool) api.House {
	t.Helper()
	g, e := Freeze(h, code, on)
	errno(t, "Freeze of "+code+" "+strconv.FormatBool(on), e, api.OK)
	return g
}

// finds checks what Find answers; the zero bin stands for none.
func finds(t *testing.T, h api.House, code string, want api.Bin) {
	t.Helper()
	if x, found := Find(h, code); x != want || found != (want != api.Bin{}) {
		t.Errorf("Find of %q = %+v, %v, want %+v", code, x, found, want)
	}
}

// site checks what Site answers.
func site(t *testing.T, h api.House, bin, want string) {
	t.Helper()
	if got := Site(h, bin); got != want {
		t.Errorf("Site of %q = %q, want %q", bin, got, want)
	}
}

// TestExamples: the document's examples.
func TestExamples(t *testing.T) {
	h := addZone(t, "the zone z", zero, zoneOf("z/s"))
	h = addBin(t, "the bin b", h, binOf("b/z"))
	site(t, h, "b", "s")
	refusesBin(t, "a bin in a zone y", h, binOf("c/y"), api.ErrNone)
	g := freeze(t, h, "b", true)
	back, e := Freeze(g, "b", true)
	refused(t, "Freeze again", back, e, api.ErrFrozen)
	g = freeze(t, g, "b", false)
	back, e = Freeze(g, "b", false)
	refused(t, "its end again", back, e, api.ErrState)
	same(t, "the house behind it", g, h)
}

// badNames are texts that are no names, with their errors.
var badNames = []struct {
	name string
	want api.Errno
}{
	{"", api.ErrName}, {strings.Repeat("x", 13), api.ErrText}, {strings.Repeat(" ", 13), api.ErrText}, {strings.Repeat("x", 300), api.ErrText},
	{"a b", api.ErrName}, {" ", api.ErrName}, {"a\n", api.ErrName}, {"\x00", api.ErrName}, {"a\x7f", api.ErrName}, {"\x80a", api.ErrName}, {"\xff", api.ErrName}, {"é", api.ErrName},
}

// goodNames are names at the edges of what a name may be.
var goodNames = []string{"x", "!", "~", "!~", strings.Repeat("x", 12), "A-01", "/"}

// TestNames: P10.1 and P10.2, what a Code and a Site may be.
func TestNames(t *testing.T) {
	for _, name := range goodNames {
		zone, bin := api.Zone{Code: name, Site: name}, with(func(x *api.Bin) { x.Code = name })
		same(t, "the zone "+name, addZone(t, "the zone "+name, laid("", "q/q"), zone), houseOf([]api.Zone{zone}, binsOf("q/q")))
		same(t, "the bin "+name, addBin(t, "the bin "+name, laid("z/s", ""), bin), houseOf(zonesOf("z/s"), []api.Bin{bin}))
	}
	for _, c := range badNames {
		what := strconv.Quote(c.name)
		for _, h := range []api.House{zero, laid("z/s", "b/z"), houseOf(append(manyZones(15), zoneOf("z/s")), manyBins(64))} {
			refusesZone(t, "a zone with the Code "+what, h, api.Zone{Code: c.name, Site: "s"}, c.want)
			refusesZone(t, "a zone with the Site "+what, h, api.Zone{Code: "a", Site: c.name}, c.want)
			refusesZone(t, "a zone that is there with the Site "+what, h, api.Zone{Code: "z", Site: c.name}, c.want)
			refusesBin(t, "a bin with the Code "+what, h, with(func(x *api.Bin) { x.Code = c.name }), c.want)
		}
	}
}

// TestZoneFirstError: P10.1, of several errors the first.
func TestZoneFirstError(t *testing.T) {
	long := strings.Repeat("x", 13)
	h := laid("z/s", "")
	refusesZone(t, "the zero zone", h, api.Zone{}, api.ErrName)
	refusesZone(t, "no code, and a long site", h, api.Zone{Site: long}, api.ErrName)
	refusesZone(t, "a long code, and no site", h, api.Zone{Code: long}, api.ErrText)
	refusesZone(t, "a code with a space, and a long site", h, api.Zone{Code: "a b", Site: long}, api.ErrName)
	refusesZone(t, "a long code, and a site with a space", h, api.Zone{Code: long, Site: "a b"}, api.ErrText)
	refusesZone(t, "there, and no site", h, api.Zone{Code: "z"}, api.ErrName)
	refusesZone(t, "there, and a long site", h, api.Zone{Code: "z", Site: long}, api.ErrText)
	for _, n := range []int{16, 17} {
		full := houseOf(manyZones(n), nil)
		refusesZone(t, "no code, and full", full, api.Zone{Site: "s"}, api.ErrName)
		refusesZone(t, "a long site, and full", full, api.Zone{Code: "a", Site: long}, api.ErrText)
		refusesZone(t, "there, and full", full, api.Zone{Code: code(7), Site: "s"}, api.ErrThere)
		refusesZone(t, "full", full, zoneOf("a/s"), api.ErrFull)
	}
	// A code that is no name is so even if a zone has it.
	odd := houseOf([]api.Zone{{Code: "a b"}, {}, {Code: long}}, nil)
	refusesZone(t, "a code with a space that is there", odd, api.Zone{Code: "a b", Site: "s"}, api.ErrName)
	refusesZone(t, "no code, which is there", odd, api.Zone{Site: "s"}, api.ErrName)
	refusesZone(t, "a long code that is there", odd, api.Zone{Code: long, Site: "s"}, api.ErrText)
}

// TestZonePlaces: P10.1, where a zone goes, in lists that are sorted, and in others.
func TestZonePlaces(t *testing.T) {
	for _, c := range places {
		h, want := laid(c.list, "c/c"), laid(c.want, "c/c")
		same(t, c.x+" added to "+c.list, addZone(t, c.x+" added to "+c.list, h, zoneOf(c.x)), want)
	}
}

// places tell where an element goes; what stands behind the / is never in the order.
var places = []struct{ list, x, want string }{
	{"", "b/9", "b/9"},
	{"b/1", "a/9", "a/9 b/1"},
	{"b/1", "c/0", "b/1 c/0"},
	{"b/1", "bb/9", "b/1 bb/9"},
	{"bb/1", "b/9", "b/9 bb/1"},
	{"b/9", "c/1", "b/9 c/1"},
	{"b/1 d/1 f/1", "a/9", "a/9 b/1 d/1 f/1"},
	{"b/1 d/1 f/1", "c/9", "b/1 c/9 d/1 f/1"},
	{"b/1 d/1 f/1", "e/0", "b/1 d/1 e/0 f/1"},
	{"b/1 d/1 f/1", "g/0", "b/1 d/1 f/1 g/0"},
	// Bytes, not letters or numbers.
	{"a/1 c/1", "B/9", "B/9 a/1 c/1"},
	{"B/1 a/1", "b/9", "B/1 a/1 b/9"},
	{"B/1 a/1", "!/9", "!/9 B/1 a/1"},
	{"B/1 a/1", "~/9", "B/1 a/1 ~/9"},
	{"9/1", "10/9", "10/9 9/1"},
	// In no order: ahead of the first one that is greater.
	{"d/1 b/1", "c/9", "c/9 d/1 b/1"},
	{"a/1 e/1 b/1 f/1", "d/9", "a/1 d/9 e/1 b/1 f/1"},
	{"e/1 d/1 c/1 b/1", "a/9", "a/9 e/1 d/1 c/1 b/1"},
	{"d/1 a/1 c/1 b/1", "e/9", "d/1 a/1 c/1 b/1 e/9"},
	{"a/1 a/2 c/1 c/2", "b/9", "a/1 a/2 b/9 c/1 c/2"},
}

// TestZoneThere: P10.1, a code that is there, wherever it stands, whatever its site.
func TestZoneThere(t *testing.T) {
	for _, l := range []string{"b/1", "b/9", "a/1 b/1 c/1", "c/1 b/1", "b/1 b/2", "c/1 a/1 b/2 b/1"} {
		refusesZone(t, "b/9 added to "+l, laid(l, ""), zoneOf("b/9"), api.ErrThere)
	}
	for _, n := range []int{15, 16, 17} {
		h := houseOf(manyZones(n), nil)
		for _, x := range h.Zones {
			refusesZone(t, x.Code+" of "+strconv.Itoa(n)+" zones again", h, x, api.ErrThere)
		}
	}
	h := laid("a/b B/b bb/b", "b/b")
	addZone(t, "a zone whose code is a site, and a bin's, and that of a bin's zone", h, zoneOf("b/b"))
	addZone(t, "a zone of a site that is there", h, zoneOf("c/b"))
}

// TestZoneFull: P10.1 and T6, the limit, and a house beyond it.
func TestZoneFull(t *testing.T) {
	for _, c := range []struct {
		n    int
		want api.Errno
	}{
		{0, api.OK}, {1, api.OK}, {14, api.OK}, {15, api.OK}, {16, api.ErrFull}, {17, api.ErrFull}, {64, api.ErrFull}, {200, api.ErrFull},
	} {
		what := "a zone added to " + strconv.Itoa(c.n)
		h := houseOf(manyZones(c.n), manyBins(70))
		for _, word := range []string{"a/s", "c001/s", "d/s"} {
			if c.want != api.OK {
				refusesZone(t, what, h, zoneOf(word), c.want)
			} else if g := addZone(t, what, h, zoneOf(word)); len(g.Zones) != c.n+1 {
				t.Errorf("%s: %d zones", what, len(g.Zones))
			}
		}
	}
	refusesZone(t, "a zone added to 16 of one code", houseOf(slices.Repeat(zonesOf("a/s"), 16), nil), zoneOf("b/s"), api.ErrFull)
}

// numbers are numbers about the edges of 0 to high, and whether they are in that range.
func numbers(high int) map[int]api.Errno {
	return map[int]api.Errno{
		math.MinInt: api.ErrNum, -high: api.ErrNum, -1: api.ErrNum, 0: api.OK, 1: api.OK, high - 1: api.OK, high: api.OK,
		high + 1: api.ErrNum, high + 1<<32: api.ErrNum, 1 << 60: api.ErrNum, math.MaxInt: api.ErrNum,
	}
}

// TestBinNumbers: P10.2, the edges of each number, alone and with the others at theirs; what is added has them unchanged.
func TestBinNumbers(t *testing.T) {
	h := laid("z/s", "")
	for _, f := range []struct {
		name string
		of   func(*api.Bin) *int
		high int
	}{
		{"Aisle", func(x *api.Bin) *int { return &x.Aisle }, 999},
		{"Place", func(x *api.Bin) *int { return &x.Place }, 999},
		{"Volume", func(x *api.Bin) *int { return &x.Volume }, 1000000000000},
		{"Weight", func(x *api.Bin) *int { return &x.Weight }, 1000000000000},
	} {
		for n, want := range numbers(f.high) {
			for _, x := range []api.Bin{cart(), {Code: "b", Zone: "z", Kind: api.Dock}, {Code: "b", Zone: "z", Kind: api.Carton, Aisle: 999, Place: 999, Volume: 1000000000000, Weight: 1000000000000}} {
				*f.of(&x) = n
				what := f.name + " " + strconv.Itoa(n)
				if want != api.OK {
					refusesBin(t, what, h, x, want)
					continue
				}
				same(t, what, addBin(t, what, h, x), houseOf(zonesOf("z/s"), []api.Bin{x}))
			}
		}
	}
}

// TestBinKinds: P10.2, the four kinds, and the numbers about them.
func TestBinKinds(t *testing.T) {
	h := laid("z/s", "")
	for kind, want := range map[int]api.Errno{
		math.MinInt: api.ErrKind, -4: api.ErrKind, -1: api.ErrKind, 0: api.ErrKind, 1: api.OK, 2: api.OK, 3: api.OK, 4: api.OK,
		5: api.ErrKind, 6: api.ErrKind, 256 + 1: api.ErrKind, 1<<32 + 1: api.ErrKind, math.MaxInt: api.ErrKind,
	} {
		x, what := with(func(x *api.Bin) { x.Kind = kind }), "kind "+strconv.Itoa(kind)
		if want != api.OK {
			refusesBin(t, what, h, x, want)
			continue
		}
		same(t, what, addBin(t, what, h, x), houseOf(zonesOf("z/s"), []api.Bin{x}))
	}
}

// TestBinZones: P10.2, the zone must be there; that it may be a name is not asked.
func TestBinZones(t *testing.T) {
	for _, zone := range []string{"", "y", "Z", "zz", "s", "b", "z ", strings.Repeat("z", 13)} {
		x := with(func(x *api.Bin) { x.Zone = zone })
		for _, h := range []api.House{zero, laid("z/s", ""), laid("z/s a/t", "q/"+zone), houseOf(zonesOf("z/s"), manyBins(64))} {
			refusesBin(t, "a bin of the zone "+strconv.Quote(zone), h, x, api.ErrNone)
		}
		zones := []api.Zone{{Code: "z", Site: "s"}, {Code: zone}}
		same(t, "the bin", addBin(t, "a bin of the zone "+strconv.Quote(zone)+" that is there", houseOf(zones, nil), x), houseOf(zones, []api.Bin{x}))
	}
	for _, zones := range []string{"z/s", "a/s z/s", "z/s a/s", "y/s z/s a/s", "z/s z/t"} {
		addBin(t, "a bin with the zones "+zones, laid(zones, ""), cart())
	}
}

// TestBinFirstError: P10.2, of each two errors the first, and ErrThere and ErrBins behind all.
func TestBinFirstError(t *testing.T) {
	wrongs := []struct {
		why    string
		change func(*api.Bin)
		want   api.Errno
	}{
		{"no code", func(x *api.Bin) { x.Code = "" }, api.ErrName},
		{"a zone that is not there", func(x *api.Bin) { x.Zone = "y" }, api.ErrNone},
		{"kind 0", func(x *api.Bin) { x.Kind = 0 }, api.ErrKind},
		{"place -1", func(x *api.Bin) { x.Place = -1 }, api.ErrNum},
		{"frozen", func(x *api.Bin) { x.Frozen = true }, api.ErrState},
		{"nothing", func(*api.Bin) {}, api.OK},
	}
	long := func(x *api.Bin) { x.Code = strings.Repeat("b", 13) }
	there := append(manyBins(63), binOf("b/z"))
	for i, first := range wrongs {
		for _, second := range wrongs[i:] {
			x := cart()
			second.change(&x)
			first.change(&x)
			what := first.why + ", and " + second.why
			want := [3]api.Errno{first.want, first.want, first.want}
			if first.want == api.OK {
				want = [3]api.Errno{api.ErrThere, api.ErrBins, api.ErrThere}
			}
			refusesBin(t, what+", and there", laid("z/s", "b/z"), x, want[0])
			refusesBin(t, what+", and full", houseOf(zonesOf("z/s"), manyBins(64)), x, want[1])
			refusesBin(t, what+", and both", houseOf(zonesOf("z/s"), there), x, want[2])
			long(&x)
			if second.want != api.OK {
				refusesBin(t, what+", and a long code", laid("z/s", "b/z"), x, api.ErrText)
			}
		}
	}
	refusesBin(t, "the zero bin", laid("z/s", ""), api.Bin{}, api.ErrName)
	refusesBin(t, "all numbers, and frozen", laid("z/s", ""), api.Bin{Code: "b", Zone: "z", Kind: 1, Aisle: -1, Place: 1000, Volume: -1, Weight: -1, Frozen: true}, api.ErrNum)
	for _, x := range []api.Bin{with(func(x *api.Bin) { x.Aisle = 1000 }), with(func(x *api.Bin) { x.Volume = -1 }), with(func(x *api.Bin) { x.Weight = -1 })} {
		x.Frozen = true
		refusesBin(t, "a number, frozen and there", laid("z/s", "b/z"), x, api.ErrNum)
	}
}

// TestBinPlaces: P10.2, where a bin goes, in lists that are sorted, and in others.
func TestBinPlaces(t *testing.T) {
	zones := "5/s 0/s 1/s 2/s 9/s"
	for _, c := range places {
		h, want := laid(zones, c.list), laid(zones, c.want)
		same(t, c.x+" added to "+c.list, addBin(t, c.x+" added to "+c.list, h, binOf(c.x)), want)
	}
}

// TestBinThere: P10.2, a code that is there, wherever it stands, whatever else the bins have.
func TestBinThere(t *testing.T) {
	for _, l := range []string{"b/z/1", "b/z/9", "b/y/9", "b/z/9*", "a/z b/z c/z", "c/z b/z", "b/z/1 b/z/2", "c/z a/z b/z/2* b/z/1"} {
		refusesBin(t, "b/z/9 added to "+l, laid("z/s y/s", l), binOf("b/z/9"), api.ErrThere)
	}
	for _, n := range []int{63, 64, 65} {
		h := houseOf(zonesOf("z/s"), manyBins(n))
		for _, x := range h.Bins {
			refusesBin(t, x.Code+" of "+strconv.Itoa(n)+" bins again", h, x, api.ErrThere)
		}
	}
	h := laid("z/b b/s", "a/b B/z bb/z")
	addBin(t, "a bin whose code is a zone's, and a site", h, binOf("b/z"))
	addBin(t, "a bin whose code is its zone's", h, binOf("z/z"))
	addBin(t, "a bin at the place of another", h, binOf("c/b"))
}

// TestBinFull: P10.2 and T6, the limit, and a house beyond it: all bins count, of whatever zone.
func TestBinFull(t *testing.T) {
	for _, c := range []struct {
		n    int
		want api.Errno
	}{
		{0, api.OK}, {1, api.OK}, {16, api.OK}, {62, api.OK}, {63, api.OK}, {64, api.ErrBins}, {65, api.ErrBins}, {300, api.ErrBins},
	} {
		what := "a bin added to " + strconv.Itoa(c.n)
		h := houseOf(append(manyZones(20), zonesOf("y/s z/s")...), manyBins(c.n))
		for _, word := range []string{"a/z", "c001/z", "d/y"} {
			if c.want != api.OK {
				refusesBin(t, what, h, binOf(word), c.want)
			} else if g := addBin(t, what, h, binOf(word)); len(g.Bins) != c.n+1 {
				t.Errorf("%s: %d bins", what, len(g.Bins))
			}
		}
	}
	refusesBin(t, "a bin added to 64 of one code", houseOf(zonesOf("z/s"), slices.Repeat(binsOf("a/z"), 64)), binOf("b/z"), api.ErrBins)
}
