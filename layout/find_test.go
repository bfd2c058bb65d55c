package layout

import (
	"cmp"
	"math"
	"math/rand"
	"slices"
	"strconv"
	"strings"
	"testing"

	"stevedore/api"
)

// TestFind: P10.3, in lists that are sorted, and in others; of several, the first one.
func TestFind(t *testing.T) {
	for _, c := range []struct{ list, code, want string }{
		{"", "b", ""},
		{"", "", ""},
		{"b/z/1", "b", "b/z/1"},
		{"b/z/1*", "b", "b/z/1*"},
		{"b/z/1", "a", ""},
		{"b/z/1", "B", ""},
		{"b/z/1", "", ""},
		{"b/z/1", "bb", ""},
		{"b/z/1", "z", ""},
		{"a/z/1 b/z/2 c/z/3", "a", "a/z/1"},
		{"a/z/1 b/z/2 c/z/3", "b", "b/z/2"},
		{"a/z/1 b/z/2 c/z/3", "c", "c/z/3"},
		{"a/z/1 b/z/2 c/z/3", "d", ""},
		{"c/z/1 a/z/2 b/z/3", "b", "b/z/3"},
		{"c/z/1 a/z/2 b/z/3", "c", "c/z/1"},
		{"a/z/1 a/y/2 a/x/3", "a", "a/z/1"},
		{"b/z/2 a/z/3* b/z/1* a/z/1", "a", "a/z/3*"},
		{"b/z/2 a/z/3* b/z/1* a/z/1", "b", "b/z/2"},
	} {
		want := append(binsOf(c.want), api.Bin{})[0]
		finds(t, laid("z/s", c.list), c.code, want)
		finds(t, laid("", c.list), c.code, want)
	}
}

// TestFindAny: P10.3, a code needs not be a name, and a bin needs not be one that may be added.
func TestFindAny(t *testing.T) {
	h := api.House{Bins: []api.Bin{{Code: "a b", Kind: 9}, {Volume: -2}, {Code: strings.Repeat("x", 99), Aisle: math.MinInt}, {Code: "\xff", Zone: " "}, cart()}}
	for _, want := range h.Bins {
		finds(t, h, want.Code, want)
	}
	finds(t, h, strings.Repeat("x", 98), api.Bin{})
	if x, found := Find(api.House{Bins: make([]api.Bin, 2)}, ""); x != (api.Bin{}) || !found {
		t.Errorf("a zero bin that is there: %+v, %v", x, found)
	}
}

// TestSite: P10.3, of the first bin and the first zone, in lists that are sorted, and in others.
func TestSite(t *testing.T) {
	for _, c := range []struct{ zones, bins, bin, want string }{
		{"", "", "b", ""},
		{"z/s", "", "b", ""},
		{"z/s", "", "z", ""},
		{"z/s", "b/z", "b", "s"},
		{"z/s", "b/z*", "b", "s"},
		{"z/s", "b/z", "z", ""},
		{"z/s", "b/z", "", ""},
		{"z/s", "b/z", "B", ""},
		{"z/s", "b/z", "bb", ""},
		// The zone has gone, or never was.
		{"", "b/z", "b", ""},
		{"y/s", "b/z", "b", ""},
		{"Z/s zz/t", "b/z", "b", ""},
		{"z/s", "b/", "b", ""},
		{"b/s", "b/z", "b", ""},
		// More than one zone and bin.
		{"y/r z/s", "a/y b/z", "a", "r"},
		{"y/r z/s", "a/y b/z", "b", "s"},
		{"y/s z/s", "a/y b/z", "a", "s"},
		{"z/s y/r", "b/z a/y", "a", "r"},
		{"z/s y/r", "b/z a/y", "b", "s"},
		// The first zone of the code, though it has no site.
		{"z/s z/r", "b/z", "b", "s"},
		{"z/r z/s", "b/z", "b", "r"},
		{"y/q z/r a/p z/s", "b/z", "b", "r"},
		{"z/ z/s", "b/z", "b", ""},
		// The first bin of the code, though its zone has gone.
		{"z/s y/r", "b/y b/z", "b", "r"},
		{"z/s y/r", "b/z b/y", "b", "s"},
		{"z/s y/r", "b/x b/z", "b", ""},
		{"z/s y/r", "c/z b/y a/z b/z", "b", "r"},
	} {
		site(t, laid(c.zones, c.bins), c.bin, c.want)
	}
}

// TestSiteAny: P10.3, neither codes nor a site need be names.
func TestSiteAny(t *testing.T) {
	h := api.House{Zones: []api.Zone{{Code: "a b", Site: "\xff"}, {Site: " "}}, Bins: []api.Bin{{Code: " ", Zone: "a b"}, {}}}
	site(t, h, " ", "\xff")
	site(t, h, "", " ")
	site(t, h, "a b", "")
}

// TestFreeze: P10.4, each error and what is returned with it, in lists that are sorted, and in others; of several bins, the first one.
func TestFreeze(t *testing.T) {
	for _, c := range []struct {
		list, code string
		on, off    api.Errno
		then       string
	}{
		{"", "b", api.ErrNone, api.ErrNone, ""},
		{"", "", api.ErrNone, api.ErrNone, ""},
		{"b/z", "a", api.ErrNone, api.ErrNone, ""},
		{"b/z*", "a", api.ErrNone, api.ErrNone, ""},
		{"b/z*", "", api.ErrNone, api.ErrNone, ""},
		{"b/z*", "B", api.ErrNone, api.ErrNone, ""},
		{"b/z*", "bb", api.ErrNone, api.ErrNone, ""},
		{"b/z", "z", api.ErrNone, api.ErrNone, ""},
		{"b/z/7", "b", api.OK, api.ErrState, "b/z/7*"},
		{"b/z/7*", "b", api.ErrFrozen, api.OK, "b/z/7"},
		{"a/z b/z c/z", "b", api.OK, api.ErrState, "a/z b/z* c/z"},
		{"a/z* b/z c/z*", "b", api.OK, api.ErrState, "a/z* b/z* c/z*"},
		{"a/z* b/z* c/z*", "a", api.ErrFrozen, api.OK, "a/z b/z* c/z*"},
		{"a/z b/z* c/z", "b", api.ErrFrozen, api.OK, "a/z b/z c/z"},
		{"a/z b/z c/z", "c", api.OK, api.ErrState, "a/z b/z c/z*"},
		// A bin whose zone has gone.
		{"b/y", "b", api.OK, api.ErrState, "b/y*"},
		{"b/*", "b", api.ErrFrozen, api.OK, "b/"},
		// In no order, and of several the first.
		{"c/z b/z a/z", "a", api.OK, api.ErrState, "c/z b/z a/z*"},
		{"c/z b/z* a/z", "b", api.ErrFrozen, api.OK, "c/z b/z a/z"},
		{"b/z/1 b/z/2", "b", api.OK, api.ErrState, "b/z/1* b/z/2"},
		{"b/z/1* b/z/2", "b", api.ErrFrozen, api.OK, "b/z/1 b/z/2"},
		{"b/z/1 b/z/2*", "b", api.OK, api.ErrState, "b/z/1* b/z/2*"},
		{"b/z/1* b/z/2*", "b", api.ErrFrozen, api.OK, "b/z/1 b/z/2*"},
		{"c/z b/y/2 a/z b/z/1*", "b", api.OK, api.ErrState, "c/z b/y/2* a/z b/z/1*"},
	} {
		h, then := laid("z/s", c.list), laid("z/s", c.then)
		for _, way := range []struct {
			on   bool
			want api.Errno
		}{{true, c.on}, {false, c.off}} {
			what := "Freeze of " + c.code + " in " + c.list + " " + strconv.FormatBool(way.on)
			g, e := Freeze(h, c.code, way.on)
			if way.want != api.OK {
				refused(t, what, g, e, way.want)
				continue
			}
			errno(t, what, e, api.OK)
			same(t, what, g, then)
		}
	}
}

// TestFreezeAny: P10.4, only Frozen is asked, and only Frozen changes: a bin needs not be one that may be added, nor the list one that is not full.
func TestFreezeAny(t *testing.T) {
	h := houseOf(manyZones(20), append(manyBins(70), api.Bin{}, api.Bin{Code: "a b", Zone: " ", Kind: 9, Aisle: -1, Place: 1000, Volume: math.MinInt, Weight: math.MaxInt}))
	for i, x := range h.Bins {
		want := slices.Clone(h.Bins)
		want[i].Frozen = true
		g := freeze(t, h, x.Code, true)
		same(t, "with "+strconv.Quote(x.Code)+" frozen", g, houseOf(h.Zones, want))
		same(t, "with the end of that", freeze(t, g, x.Code, false), h)
	}
}

// TestAddedIsFound: P10.5, at the site of its zone, unchanged, while a house fills up in any order; freezing it and ending this leaves the house as it was.
func TestAddedIsFound(t *testing.T) {
	h := houseOf(nil, nil)
	for i := range api.MaxZones {
		n := i * 7 % api.MaxZones
		h = addZone(t, "a zone", h, api.Zone{Code: "z" + strconv.Itoa(n), Site: "s" + strconv.Itoa(n/3)})
	}
	var all []api.Bin
	for i := range api.MaxBins {
		n := i * 37 % api.MaxBins
		x := api.Bin{Code: "b" + strconv.Itoa(n), Zone: "z" + strconv.Itoa(n%16), Kind: 1 + n%4, Aisle: n, Place: 999 - n, Volume: n * 1000, Weight: 1000000000000 - n}
		h = addBin(t, x.Code, h, x)
		all = append(all, x)
		for _, y := range all {
			number, _ := strconv.Atoi(y.Zone[1:])
			finds(t, h, y.Code, y)
			site(t, h, y.Code, "s"+strconv.Itoa(number/3))
		}
		g := freeze(t, h, x.Code, true)
		frozen := x
		frozen.Frozen = true
		finds(t, g, x.Code, frozen)
		site(t, g, x.Code, Site(h, x.Code))
		same(t, "frozen, and no more", freeze(t, g, x.Code, false), h)
	}
	slices.SortFunc(all, func(a, b api.Bin) int { return strings.Compare(a.Code, b.Code) })
	same(t, "the full house", h, houseOf(h.Zones, all))
	if !slices.IsSortedFunc(h.Zones, func(a, b api.Zone) int { return strings.Compare(a.Code, b.Code) }) || len(h.Zones) != 16 {
		t.Errorf("the zones are %+v", h.Zones)
	}
}

// roomy is l with unused capacity behind it, filled with marks that no call may touch.
func roomy[T any](l []T, mark T) (short, whole []T) {
	whole = append(slices.Clone(l), mark, mark, mark)
	return whole[:len(l)], whole
}

// TestNothingElseChanges: R2, the house that is passed stays as it is, its lists and their unused capacity too; the list that changed is new memory.
func TestNothingElseChanges(t *testing.T) {
	for _, c := range []struct {
		zones []api.Zone
		bins  []api.Bin
	}{
		{nil, nil}, {zonesOf("z/s"), nil}, {zonesOf("b/s z/s"), binsOf("b/z d/b* f/z")}, {zonesOf("z/s b/s b/r"), binsOf("f/z b/z b/b d/z*")},
		{append(manyZones(14), zoneOf("z/s")), manyBins(63)}, {append(manyZones(15), zoneOf("z/s")), manyBins(64)},
	} {
		zones, allZones := roomy(c.zones, zoneOf("mark/mark"))
		bins, allBins := roomy(c.bins, binOf("mark/mark"))
		keptZones, keptBins := slices.Clone(allZones), slices.Clone(allBins)
		h := houseOf(zones, bins)
		for _, name := range []string{"a", "b", "c", "d", "f", "zz", "c000", "a b", ""} {
			g, _ := AddZone(h, api.Zone{Code: name, Site: "s"})
			change(g.Zones)
			b, _ := AddBin(h, api.Bin{Code: name, Zone: "z", Kind: api.Dock})
			change(b.Bins)
			on, _ := Freeze(h, name, true)
			change(on.Bins)
			off, _ := Freeze(h, name, false)
			change(off.Bins)
			Find(h, name)
			Site(h, name)
			if !slices.Equal(allZones, keptZones) || !slices.Equal(allBins, keptBins) {
				t.Fatalf("%q with %d zones and %d bins changed them, or what is behind them", name, len(zones), len(bins))
			}
			same(t, "the house that was passed", h, houseOf(keptZones[:len(zones)], keptBins[:len(bins)]))
		}
	}
}

// change writes over a list and its unused capacity, as the caller whom it belongs to may.
func change[T any](l []T) {
	var none T
	l = l[:cap(l)]
	for i := range l {
		l[i] = none
	}
}

// nameByWords is the error of a name.
func nameByWords(s string) api.Errno {
	if len(s) > 12 {
		return api.ErrText
	}
	if s == "" || strings.IndexFunc(s, func(r rune) bool { return r < 33 || r > 126 }) >= 0 {
		return api.ErrName
	}
	return api.OK
}

// zoneByWords is the first error of P10.1.
func zoneByWords(h api.House, x api.Zone) api.Errno {
	there := slices.ContainsFunc(h.Zones, func(z api.Zone) bool { return z.Code == x.Code })
	return cmp.Or(nameByWords(x.Code), nameByWords(x.Site), when(there, api.ErrThere), when(len(h.Zones) >= 16, api.ErrFull))
}

// binByWords is the first error of P10.2.
func binByWords(h api.House, x api.Bin) api.Errno {
	zone := slices.ContainsFunc(h.Zones, func(z api.Zone) bool { return z.Code == x.Zone })
	there := slices.ContainsFunc(h.Bins, func(b api.Bin) bool { return b.Code == x.Code })
	out := func(n, high int) api.Errno { return when(n < 0 || n > high, api.ErrNum) }
	return cmp.Or(nameByWords(x.Code), when(!zone, api.ErrNone), when(x.Kind < 1 || x.Kind > 4, api.ErrKind),
		out(x.Aisle, 999), out(x.Place, 999), out(x.Volume, 1000000000000), out(x.Weight, 1000000000000),
		when(x.Frozen, api.ErrState), when(there, api.ErrThere), when(len(h.Bins) >= 64, api.ErrBins))
}

// when is an error if something is so.
func when(so bool, e api.Errno) api.Errno {
	if so {
		return e
	}
	return api.OK
}

// putByWords is the list with an element that is not in it: ahead of the first one that is greater.
func putByWords[T any](l []T, x T, code func(T) string) []T {
	i := slices.IndexFunc(l, func(y T) bool { return code(y) > code(x) })
	if i < 0 {
		i = len(l)
	}
	return slices.Insert(slices.Clone(l), i, x)
}

// oneOf is the usual in most cases, and at times one of the others.
func oneOf[T any](r *rand.Rand, usual T, others ...T) T {
	if r.Intn(10) > 0 {
		return usual
	}
	return others[r.Intn(len(others))]
}

// anyName is a random name, or at times a text that is none.
func anyName(r *rand.Rand, first string, n int) string {
	return oneOf(r, first+strconv.Itoa(r.Intn(n)), "", "a b", "\x7f", strings.Repeat("y", 12), strings.Repeat("y", 13))
}

// anyNumber is a random number up to high, or at times one at an edge or behind it.
func anyNumber(r *rand.Rand, high int) int {
	return oneOf(r, r.Intn(high+1), -1, 0, high, high+1, math.MinInt, math.MaxInt)
}

// anyBin is a random bin: most of its fields are as they may be.
func anyBin(r *rand.Rand) api.Bin {
	return api.Bin{
		Code: anyName(r, "b", 90), Zone: anyName(r, "z", 20), Kind: oneOf(r, 1+r.Intn(4), -1, 0, 5, 257),
		Aisle: anyNumber(r, 999), Place: anyNumber(r, 999), Volume: anyNumber(r, 1000000000000), Weight: anyNumber(r, 1000000000000),
		Frozen: r.Intn(10) == 0,
	}
}

// anyHouse is a random house: its zones and bins are sorted or not, and some are there twice, or of a zone that isn't there.
func anyHouse(r *rand.Rand) api.House {
	h := houseOf(nil, nil)
	for range r.Intn(20) {
		x := api.Zone{Code: "z" + strconv.Itoa(r.Intn(20)), Site: "s" + strconv.Itoa(r.Intn(4))}
		h.Zones = append(h.Zones, x)
	}
	for range r.Intn(70) {
		x := anyBin(r)
		x.Frozen = r.Intn(2) == 0
		h.Bins = append(h.Bins, x)
	}
	if r.Intn(2) == 0 {
		slices.SortFunc(h.Zones, func(a, b api.Zone) int { return strings.Compare(a.Code, b.Code) })
		slices.SortFunc(h.Bins, func(a, b api.Bin) int { return strings.Compare(a.Code, b.Code) })
	}
	return h
}

// freezeByWords is the first error of P10.4, and the bins behind it.
func freezeByWords(l []api.Bin, code string, on bool) ([]api.Bin, api.Errno) {
	i := slices.IndexFunc(l, func(b api.Bin) bool { return b.Code == code })
	if i < 0 {
		return nil, api.ErrNone
	}
	if l[i].Frozen == on {
		return nil, cmp.Or(when(on, api.ErrFrozen), api.ErrState)
	}
	l = slices.Clone(l)
	l[i].Frozen = on
	return l, api.OK
}

// siteByWords is P10.3.
func siteByWords(h api.House, bin string) string {
	for _, b := range h.Bins {
		if b.Code != bin {
			continue
		}
		for _, z := range h.Zones {
			if z.Code == b.Zone {
				return z.Site
			}
		}
		return ""
	}
	return ""
}

// TestByTheWords: P10.1 to P10.5, thousands of random zones, bins and houses held against the words of the document.
func TestByTheWords(t *testing.T) {
	r := rand.New(rand.NewSource(10))
	seen := map[string]int{}
	step := func(what string, h, g api.House, e, want api.Errno, then api.House) api.House {
		t.Helper()
		seen[what+" "+strconv.Itoa(int(want))]++
		if e != want {
			t.Fatalf("%s: error %d, want %d", what, int(e), int(want))
		}
		if want != api.OK {
			same(t, what+": the house beside the error", g, zero)
			return h
		}
		same(t, what, g, then)
		return g
	}
	for range 500 {
		h := anyHouse(r)
		for range 40 {
			z := api.Zone{Code: anyName(r, "z", 20), Site: anyName(r, "s", 4)}
			g, e := AddZone(h, z)
			then := h
			then.Zones = putByWords(h.Zones, z, func(z api.Zone) string { return z.Code })
			h = step("AddZone", h, g, e, zoneByWords(h, z), then)

			b := anyBin(r)
			g, e = AddBin(h, b)
			then = h
			then.Bins = putByWords(h.Bins, b, func(b api.Bin) string { return b.Code })
			h = step("AddBin", h, g, e, binByWords(h, b), then)

			code, on := anyName(r, "b", 90), r.Intn(2) == 0
			site(t, h, code, siteByWords(h, code))
			finds(t, h, code, append(slices.DeleteFunc(slices.Clone(h.Bins), func(b api.Bin) bool { return b.Code != code }), api.Bin{})[0])
			g, e = Freeze(h, code, on)
			then = h
			bins, want := freezeByWords(h.Bins, code, on)
			then.Bins = bins
			h = step("Freeze", h, g, e, want, then)
		}
	}
	for _, what := range []string{"AddZone 0", "AddZone 3", "AddZone 4", "AddZone 11", "AddZone 14", "AddBin 0", "AddBin 3", "AddBin 4", "AddBin 12", "AddBin 23",
		"AddBin 5", "AddBin 13", "AddBin 11", "AddBin 15", "Freeze 0", "Freeze 12", "Freeze 25", "Freeze 13"} {
		if seen[what] < 50 {
			t.Errorf("%s came up %d times", what, seen[what])
		}
	}
}
