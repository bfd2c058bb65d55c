package items

import (
	"math"
	"math/rand"
	"reflect"
	"slices"
	"strconv"
	"strings"
	"testing"

	"stevedore/api"
)

type units = [api.MaxUnits]api.Unit

// zero is a house without anything: the one beside an error.
var zero api.House

// plain is an item of a code, and of nothing else.
func plain(code string) api.Item { return api.Item{Code: code} }

// nut is an item that fills each field.
func nut() api.Item {
	return api.Item{Code: "nut", Units: units{{Name: "box", Factor: 12}, {Name: "case", Factor: 240}}, Volume: 3, Weight: 2, Lots: true, Serial: true, Check: true}
}

// with is nut with a change.
func with(change func(*api.Item)) api.Item {
	x := nut()
	change(&x)
	return x
}

// list makes items of words like "a1 c2": a code of one letter, and a volume that tells items of one code apart.
func list(text string) []api.Item {
	var l []api.Item
	for _, w := range strings.Fields(text) {
		volume, _ := strconv.Atoi(w[1:])
		l = append(l, api.Item{Code: w[:1], Volume: volume})
	}
	return l
}

// many is a sorted list of n items: c000, c002, c004 and so on.
func many(n int) []api.Item {
	var l []api.Item
	for i := range n {
		code := strconv.Itoa(1000 + 2*i)
		l = append(l, plain("c"+code[1:]))
	}
	return l
}

// houseOf is a house with these items, and something in each other list.
func houseOf(l []api.Item) api.House {
	k := api.Key{Bin: "bin", Item: "item", Lot: "lot", Status: api.Free}
	return api.House{
		Items:   l,
		Lots:    []api.Lot{{Item: "item", Code: "lot", Expiry: 9}},
		Zones:   []api.Zone{{Code: "zone", Site: "site"}},
		Bins:    []api.Bin{{Code: "bin", Zone: "zone", Kind: api.Shelf, Volume: 5}},
		Quants:  []api.Quant{{Key: k, Qty: 4, Held: 3}},
		Rules:   []api.Rule{{Item: "item", Zone: "zone", Rank: 1}},
		Notices: []api.Notice{{Code: "notice", Site: "site"}},
		Orders:  []api.Order{{Code: "order", Site: "site"}},
		Claims:  []api.Claim{{Order: "order", Line: 1, Key: k, Qty: 3, Task: 7}},
		Tasks:   []api.Task{{Number: 7, Kind: api.Pick, Order: "order", From: k, To: "cart", Qty: 3}},
		Parcels: []api.Parcel{{Bin: "carton", Order: "order"}},
		Sent:    []api.Sent{{Order: "order", Item: "item", Lot: "lot", Qty: 2, Back: 1}},
		Counted: []api.Counted{{Key: k, Qty: 4}},
		Totals:  []api.Total{{Item: "item", Lot: "lot", In: 6, Out: 2}}, LastTask: 7,
	}
}

// roomy is l with unused capacity behind it, filled with marks that no call may touch.
func roomy(l []api.Item) (short, whole []api.Item) {
	whole = append(slices.Clone(l), plain("mark1"), plain("mark2"), plain("mark3"))
	return whole[:len(l)], whole
}

// errno checks an error.
func errno(t *testing.T, what string, got, want api.Errno) {
	t.Helper()
	if got != want {
		t.Errorf("%s = %d, want %d", what, int(got), int(want))
	}
}

// same checks two houses, all of their lists; an empty list may be nil or not.
func same(t *testing.T, what string, got, want api.House) {
	t.Helper()
	if len(got.Items) == 0 && len(want.Items) == 0 {
		got.Items, want.Items = nil, nil
	}
	if !reflect.DeepEqual(got, want) {
		t.Errorf("%s is %+v, want %+v", what, got, want)
	}
}

// refuses checks that Add answers an error, and nothing beside it.
func refuses(t *testing.T, what string, h api.House, x api.Item, want api.Errno) {
	t.Helper()
	g, e := Add(h, x)
	errno(t, what, e, want)
	same(t, what+": the house beside the error", g, zero)
}

// add adds an item, which must go well.
func add(t *testing.T, what string, h api.House, x api.Item) api.House {
	t.Helper()
	g, e := Add(h, x)
	errno(t, what, e, api.OK)
	return g
}

// checks tell for an item what Check answers, and Add of it to an empty house.
var checks = []struct {
	why  string
	x    api.Item
	want api.Errno
}{
	// The document's examples.
	{"box twice", api.Item{Code: "nut", Units: units{{Name: "box", Factor: 12}, {Name: "box", Factor: 20}}}, api.ErrThere},
	{"each as a unit", api.Item{Code: "nut", Units: units{{Name: "each", Factor: 2}}}, api.ErrThere},
	{"only Serial", api.Item{Serial: true}, api.ErrName},

	{"the zero item", api.Item{}, api.ErrName},
	{"a code alone", plain("nut"), api.OK},
	{"every field", nut(), api.OK},

	// The code.
	{"a code of one byte", plain("x"), api.OK},
	{"a code of 12 bytes", plain(strings.Repeat("x", 12)), api.OK},
	{"a code of 13 bytes", plain(strings.Repeat("x", 13)), api.ErrText},
	{"a code of 13 bytes that no name has", plain(strings.Repeat(" ", 13)), api.ErrText},
	{"a code that begins with a space", plain(" nut"), api.ErrName},
	{"a code with a line's end", plain("nut\n"), api.ErrName},
	{"a code with a zero byte", plain("n\x00t"), api.ErrName},
	{"a code with byte 127", plain("n\x7ft"), api.ErrName},
	{"a code with byte 128", plain("n\x80t"), api.ErrName},
	{"a code of bytes 33 and 126", plain("!~"), api.OK},
	{"a code of more than ASCII", plain("ñut"), api.ErrName},
	{"the code each", plain("each"), api.OK},

	// The name of a unit.
	{"a unit's name of 12 bytes", api.Item{Code: "nut", Units: units{{Name: strings.Repeat("x", 12), Factor: 2}}}, api.OK},
	{"a unit's name of 13 bytes", api.Item{Code: "nut", Units: units{{Name: strings.Repeat("x", 13), Factor: 2}}}, api.ErrText},
	{"a unit's name with a space", api.Item{Code: "nut", Units: units{{Name: "b x", Factor: 2}}}, api.ErrName},
	{"a unit's name with byte 127", api.Item{Code: "nut", Units: units{{Name: "b\x7f", Factor: 2}}}, api.ErrName},
	{"a unit's name with byte 255", api.Item{Code: "nut", Units: units{{Name: "b\xff", Factor: 2}}}, api.ErrName},
	{"a unit named as the code", api.Item{Code: "nut", Units: units{{Name: "nut", Factor: 2}}}, api.OK},
	{"a unit named Each", api.Item{Code: "nut", Units: units{{Name: "Each", Factor: 2}}}, api.OK},
	{"a unit named eac", api.Item{Code: "nut", Units: units{{Name: "eac", Factor: 2}}}, api.OK},
	{"each as the last unit", api.Item{Code: "nut", Units: units{3: {Name: "each", Factor: 2}}}, api.ErrThere},

	// The name of a previous unit.
	{"box, and box behind another", api.Item{Code: "nut", Units: units{{Name: "box", Factor: 2}, {Name: "case", Factor: 3}, {Name: "box", Factor: 4}}}, api.ErrThere},
	{"box, and box behind an unused one", api.Item{Code: "nut", Units: units{{Name: "box", Factor: 2}, {}, {Name: "box", Factor: 4}}}, api.ErrThere},
	{"box first and last", api.Item{Code: "nut", Units: units{0: {Name: "box", Factor: 2}, 3: {Name: "box", Factor: 2}}}, api.ErrThere},
	{"the third and the fourth alike", api.Item{Code: "nut", Units: units{{Name: "a", Factor: 2}, {Name: "b", Factor: 2}, {Name: "c", Factor: 2}, {Name: "c", Factor: 2}}}, api.ErrThere},
	{"box and Box", api.Item{Code: "nut", Units: units{{Name: "box", Factor: 2}, {Name: "Box", Factor: 2}}}, api.OK},
	{"box and boxe", api.Item{Code: "nut", Units: units{{Name: "box", Factor: 2}, {Name: "boxe", Factor: 2}}}, api.OK},
	{"four units of one factor", api.Item{Code: "nut", Units: units{{Name: "a", Factor: 2}, {Name: "b", Factor: 2}, {Name: "c", Factor: 2}, {Name: "d", Factor: 2}}}, api.OK},

	// Lots and serial numbers.
	{"Lots without Serial", with(func(x *api.Item) { x.Serial = false }), api.OK},
	{"Serial without Lots", with(func(x *api.Item) { x.Lots = false }), api.ErrLot},
	{"neither Serial nor Lots", with(func(x *api.Item) { x.Serial, x.Lots = false, false }), api.OK},
	{"nothing but Check", api.Item{Code: "nut", Check: true}, api.OK},
	{"Serial and Check without Lots", api.Item{Code: "nut", Serial: true, Check: true}, api.ErrLot},

	// Several at once: the first that P7.1 names.
	{"a long code, and all else wrong", api.Item{Code: strings.Repeat("x", 13), Units: units{{Name: "each", Factor: 1}}, Volume: -1, Serial: true}, api.ErrText},
	{"no code, and all else wrong", api.Item{Units: units{{Name: "each", Factor: 1}}, Weight: -1, Serial: true}, api.ErrName},
	{"each, whose factor is wrong", api.Item{Code: "nut", Units: units{{Name: "each", Factor: 1}}, Volume: -1}, api.ErrThere},
	{"a previous name, whose factor is wrong", api.Item{Code: "nut", Units: units{{Name: "box", Factor: 2}, {Name: "box"}}}, api.ErrThere},
	{"a wrong name, whose factor is wrong", api.Item{Code: "nut", Units: units{{Name: "b x", Factor: 1}}}, api.ErrName},
	{"a wrong name twice", api.Item{Code: "nut", Units: units{{Name: "b x", Factor: 2}, {Name: "b x", Factor: 2}}}, api.ErrName},
	{"a wrong factor, then a wrong name", api.Item{Code: "nut", Units: units{{Name: "box", Factor: 1}, {Name: "b x", Factor: 2}}}, api.ErrNum},
	{"a wrong factor, then the same name", api.Item{Code: "nut", Units: units{{Name: "box", Factor: 1}, {Name: "box", Factor: 2}}}, api.ErrNum},
	{"each, then a wrong factor", api.Item{Code: "nut", Units: units{{Name: "each", Factor: 2}, {Name: "box", Factor: 1}}}, api.ErrThere},
	{"a factor without a name, then a long name", api.Item{Code: "nut", Units: units{{Factor: 2}, {Name: strings.Repeat("x", 13), Factor: 2}}}, api.ErrNum},
	{"a long name, then a factor without a name", api.Item{Code: "nut", Units: units{{Name: strings.Repeat("x", 13), Factor: 2}, {Factor: 2}}}, api.ErrText},
	{"a unit, then the volume", api.Item{Code: "nut", Units: units{3: {Name: "each", Factor: 2}}, Volume: -1}, api.ErrThere},
	{"the volume, then Serial", api.Item{Code: "nut", Volume: -1, Serial: true}, api.ErrNum},
	{"the weight, then Serial", api.Item{Code: "nut", Weight: 1000001, Serial: true}, api.ErrNum},
	{"a unit, then Serial", api.Item{Code: "nut", Units: units{{Name: "b x", Factor: 2}}, Serial: true}, api.ErrName},
}

// TestCheck: P7.1, the examples, each error, and the first of several.
func TestCheck(t *testing.T) {
	for _, c := range checks {
		errno(t, c.why+": Check", Check(c.x), c.want)
	}
}

// TestCheckPlaces: P7.1, each place of a unit used or not, whatever stands ahead of it.
func TestCheckPlaces(t *testing.T) {
	for used := range 1 << api.MaxUnits {
		x := plain("nut")
		for i := range x.Units {
			if used>>i&1 == 1 {
				x.Units[i] = api.Unit{Name: "u" + strconv.Itoa(i), Factor: 2 + i}
			}
		}
		errno(t, "units "+strconv.FormatInt(int64(used), 2), Check(x), api.OK)
		for i := range x.Units {
			y := x
			y.Units[i].Factor = 1
			errno(t, "factor 1 at "+strconv.Itoa(i)+" of units "+strconv.FormatInt(int64(used), 2), Check(y), api.ErrNum)
			y.Units[i] = api.Unit{Name: "b x", Factor: 2}
			errno(t, "a wrong name at "+strconv.Itoa(i)+" of units "+strconv.FormatInt(int64(used), 2), Check(y), api.ErrName)
		}
	}
}

// TestCheckFactors: P7.1, the edges of a factor, with a name and without one, at each place.
func TestCheckFactors(t *testing.T) {
	for i := range api.MaxUnits {
		for _, c := range []struct {
			factor        int
			named, noName api.Errno
		}{
			{math.MinInt, api.ErrNum, api.ErrNum}, {-2, api.ErrNum, api.ErrNum}, {-1, api.ErrNum, api.ErrNum},
			{0, api.ErrNum, api.OK}, {1, api.ErrNum, api.ErrNum}, {2, api.OK, api.ErrNum}, {3, api.OK, api.ErrNum},
			{999999, api.OK, api.ErrNum}, {1000000, api.OK, api.ErrNum}, {1000001, api.ErrNum, api.ErrNum},
			{1<<32 + 2, api.ErrNum, api.ErrNum}, {math.MaxInt, api.ErrNum, api.ErrNum},
		} {
			at := "factor " + strconv.Itoa(c.factor) + " at " + strconv.Itoa(i)
			x := plain("nut")
			x.Units[i] = api.Unit{Name: "box", Factor: c.factor}
			errno(t, at+" with a name", Check(x), c.named)
			x.Units[i].Name = ""
			errno(t, at+" without a name", Check(x), c.noName)
		}
	}
}

// TestCheckMeasures: P7.1, the edges of a volume and of a weight.
func TestCheckMeasures(t *testing.T) {
	for _, c := range []struct {
		n    int
		want api.Errno
	}{
		{math.MinInt, api.ErrNum}, {-1, api.ErrNum}, {0, api.OK}, {1, api.OK}, {999999, api.OK}, {1000000, api.OK},
		{1000001, api.ErrNum}, {1 << 32, api.ErrNum}, {math.MaxInt, api.ErrNum},
	} {
		errno(t, "volume "+strconv.Itoa(c.n), Check(api.Item{Code: "nut", Volume: c.n}), c.want)
		errno(t, "weight "+strconv.Itoa(c.n), Check(api.Item{Code: "nut", Weight: c.n}), c.want)
		errno(t, "both "+strconv.Itoa(c.n), Check(api.Item{Code: "nut", Volume: c.n, Weight: c.n}), c.want)
	}
}

// TestAddChecks: P7.2 and R1, the error of Check comes first of all, and nothing is told beside it.
func TestAddChecks(t *testing.T) {
	for _, c := range checks {
		if c.want != api.OK {
			refuses(t, c.why+": Add to an empty house", zero, c.x, c.want)
			full := houseOf(append(many(63), c.x))
			refuses(t, c.why+": Add to a full house that has it", full, c.x, c.want)
			continue
		}
		same(t, c.why+": the house", add(t, c.why+": Add", zero, c.x), api.House{Items: []api.Item{c.x}})
	}
}

// TestAddPlaces: P7.2, where an item goes, in lists that are sorted, and in others.
func TestAddPlaces(t *testing.T) {
	for _, c := range []struct{ list, x, want string }{
		{"", "b9", "b9"},
		{"b1", "a9", "a9 b1"},
		{"b1", "c9", "b1 c9"},
		{"b1 d1 f1", "a9", "a9 b1 d1 f1"},
		{"b1 d1 f1", "c9", "b1 c9 d1 f1"},
		{"b1 d1 f1", "e9", "b1 d1 e9 f1"},
		{"b1 d1 f1", "g9", "b1 d1 f1 g9"},
		// Bytes, not letters: a great one precedes every small one.
		{"a1 c1", "B9", "B9 a1 c1"},
		{"B1 a1", "b9", "B1 a1 b9"},
		{"B1 a1", "!9", "!9 B1 a1"},
		{"B1 a1", "~9", "B1 a1 ~9"},
		// In no order: ahead of the first one that is greater.
		{"d1 b1", "c9", "c9 d1 b1"},
		{"a1 e1 b1 f1", "d9", "a1 d9 e1 b1 f1"},
		{"e1 d1 c1 b1", "a9", "a9 e1 d1 c1 b1"},
		{"d1 a1 c1 b1", "e9", "d1 a1 c1 b1 e9"},
		{"a1 a2 c1 c2", "b9", "a1 a2 b9 c1 c2"},
	} {
		h, want := houseOf(list(c.list)), houseOf(list(c.want))
		same(t, c.x+" added to "+c.list, add(t, c.x+" added to "+c.list, h, list(c.x)[0]), want)
	}
}

// TestAddThere: P7.2, a code that is there, wherever it stands, however the items differ; and even in a full house.
func TestAddThere(t *testing.T) {
	for _, l := range []string{"b1", "b9", "a1 b1 c1", "c1 b1", "b1 b2", "c1 a1 b2 b1"} {
		refuses(t, "b9 added to "+l, houseOf(list(l)), list("b9")[0], api.ErrThere)
	}
	for _, n := range []int{64, 65} {
		h := houseOf(many(n))
		for _, x := range h.Items {
			refuses(t, x.Code+" of "+strconv.Itoa(n)+" items again", h, x, api.ErrThere)
		}
	}
	h := houseOf([]api.Item{nut()})
	refuses(t, "nut, of which only the code is alike", h, plain("nut"), api.ErrThere)
	add(t, "nuts, which begins like nut", h, plain("nuts"))
	add(t, "Nut, whose letter is another", h, plain("Nut"))
	add(t, "box, which is a unit's name", h, plain("box"))
}

// TestAddFull: P7.2 and T6, the limit, and a house beyond it.
func TestAddFull(t *testing.T) {
	for _, c := range []struct {
		n    int
		want api.Errno
	}{
		{0, api.OK}, {1, api.OK}, {62, api.OK}, {63, api.OK}, {64, api.ErrFull}, {65, api.ErrFull}, {200, api.ErrFull},
	} {
		what := "an item added to " + strconv.Itoa(c.n)
		h := houseOf(many(c.n))
		for _, code := range []string{"a", "c001", "d"} {
			if c.want != api.OK {
				refuses(t, what, h, plain(code), c.want)
			} else if g := add(t, what, h, plain(code)); len(g.Items) != c.n+1 {
				t.Errorf("%s: %d items", what, len(g.Items))
			}
		}
	}
	// All of the elements count, not their codes.
	refuses(t, "an item added to 64 of one code", houseOf(slices.Repeat([]api.Item{plain("a")}, 64)), plain("b"), api.ErrFull)
}

// TestFind: P7.3, in lists that are sorted, and in others; of several, the first one.
func TestFind(t *testing.T) {
	for _, c := range []struct{ list, code, want string }{
		{"", "b", ""},
		{"b1", "b", "b1"},
		{"b1", "a", ""},
		{"b1", "B", ""},
		{"b1", "", ""},
		{"b1", "bb", ""},
		{"a1 b2 c3", "a", "a1"},
		{"a1 b2 c3", "b", "b2"},
		{"a1 b2 c3", "c", "c3"},
		{"a1 b2 c3", "d", ""},
		{"c1 a2 b3", "b", "b3"},
		{"c1 a2 b3", "c", "c1"},
		{"a1 a2 a3", "a", "a1"},
		{"b2 a3 b1 a1", "a", "a3"},
		{"b2 a3 b1 a1", "b", "b2"},
	} {
		want := append(list(c.want), api.Item{})[0]
		x, found := Find(houseOf(list(c.list)), c.code)
		if x != want || found != (c.want != "") {
			t.Errorf("%q in %q: %+v, %v, want %+v", c.code, c.list, x, found, want)
		}
	}
}

// TestFindAny: P7.3, a code needs not be a name: it is found if an item has it.
func TestFindAny(t *testing.T) {
	h := api.House{Items: []api.Item{{Code: "a b", Volume: 1}, {Volume: -2}, {Code: strings.Repeat("x", 99), Volume: 3}, {Code: "\xff", Volume: 4}}}
	for _, want := range h.Items {
		if x, found := Find(h, want.Code); x != want || !found {
			t.Errorf("%q: %+v, %v", want.Code, x, found)
		}
	}
	if x, found := Find(h, strings.Repeat("x", 98)); x != (api.Item{}) || found {
		t.Errorf("a code that no item has: %+v, %v", x, found)
	}
}

// TestAddedIsFound: P7.4, unchanged, and everything else remains, while a house fills up in any order.
func TestAddedIsFound(t *testing.T) {
	h := houseOf(nil)
	var all []api.Item
	for i := range api.MaxItems {
		x := nut()
		x.Code = "n" + strconv.Itoa(i*37%api.MaxItems)
		x.Volume, x.Units[3] = i, api.Unit{Name: "last", Factor: 2 + i}
		h = add(t, x.Code, h, x)
		all = append(all, x)
		for _, y := range all {
			if z, found := Find(h, y.Code); z != y || !found {
				t.Fatalf("behind %s, %s is %+v, %v, want %+v", x.Code, y.Code, z, found, y)
			}
		}
	}
	slices.SortFunc(all, func(a, b api.Item) int { return strings.Compare(a.Code, b.Code) })
	same(t, "the full house", h, houseOf(all))
}

// TestNothingElseChanges: R2 and P7.4, the house that is passed stays as it is, its lists and their unused capacity too; what comes back has its own items.
func TestNothingElseChanges(t *testing.T) {
	for _, l := range [][]api.Item{nil, list("b1"), list("b1 d1 f1"), list("f1 b1 d1 b2"), many(63), many(64)} {
		for _, x := range []api.Item{plain("a"), plain("b"), plain("c"), plain("zz"), plain("b x"), plain("c000")} {
			short, whole := roomy(l)
			kept := slices.Clone(whole)
			h := houseOf(short)
			g, e := Add(h, x)
			Find(h, x.Code)
			Check(x)
			if !slices.Equal(whole, kept) {
				t.Fatalf("%s added to %d items changed them, or what is behind them", x.Code, len(l))
			}
			same(t, "the house that was passed", h, houseOf(short))
			if e != api.OK {
				continue
			}
			own := g.Items[:cap(g.Items)]
			for i := range own {
				own[i].Code = "changed"
			}
			if !slices.Equal(whole, kept) {
				t.Fatalf("%s added to %d items: the new list shares memory with the old one", x.Code, len(l))
			}
		}
	}
}

// checkByWords is P7.1, word by word.
func checkByWords(x api.Item) api.Errno {
	var errs []api.Errno
	is := func(wrong bool, e api.Errno) {
		if wrong {
			errs = append(errs, e)
		}
	}
	name := func(s string) {
		is(len(s) > 12, api.ErrText)
		is(s == "" || strings.IndexFunc(s, func(r rune) bool { return r < 33 || r > 126 }) >= 0, api.ErrName)
	}
	name(x.Code)
	for i, u := range x.Units {
		if u.Name == "" {
			is(u.Factor != 0, api.ErrNum)
			continue
		}
		name(u.Name)
		is(u.Name == "each", api.ErrThere)
		for j := range i {
			is(x.Units[j].Name == u.Name, api.ErrThere)
		}
		is(u.Factor < 2 || u.Factor > 1000000, api.ErrNum)
	}
	is(x.Volume < 0 || x.Volume > 1000000 || x.Weight < 0 || x.Weight > 1000000, api.ErrNum)
	is(x.Serial && !x.Lots, api.ErrLot)
	return append(errs, api.OK)[0]
}

// addByWords is P7.2, word by word.
func addByWords(l []api.Item, x api.Item) ([]api.Item, api.Errno) {
	if e := checkByWords(x); e != api.OK {
		return nil, e
	}
	greater := len(l)
	for i, y := range slices.Backward(l) {
		if y.Code == x.Code {
			return nil, api.ErrThere
		}
		if y.Code > x.Code {
			greater = i
		}
	}
	if len(l) >= 64 {
		return nil, api.ErrFull
	}
	return slices.Insert(slices.Clone(l), greater, x), api.OK
}

// anyItem is a random item: most of its fields are as they may be, and some are at an edge or behind it.
func anyItem(r *rand.Rand) api.Item {
	pick := func(usual string, other ...string) string {
		if r.Intn(8) > 0 {
			return usual
		}
		return other[r.Intn(len(other))]
	}
	measure := func() int {
		if r.Intn(8) > 0 {
			return r.Intn(1000001)
		}
		return []int{-1, 0, 1000000, 1000001, math.MinInt, math.MaxInt}[r.Intn(6)]
	}
	x := api.Item{Code: pick(strconv.Itoa(r.Intn(90)), "", strings.Repeat("y", 12), strings.Repeat("y", 13), "a b", "é"), Volume: measure(), Weight: measure()}
	for i := range x.Units {
		if r.Intn(2) == 0 {
			name := pick("unit"+strconv.Itoa(r.Intn(20)), "each", "b x", "\x7f", strings.Repeat("y", 13), "")
			factor := 2 + r.Intn(999999)
			if r.Intn(8) == 0 {
				factor = []int{-1, 0, 1, 2, 1000000, 1000001}[r.Intn(6)]
			}
			x.Units[i] = api.Unit{Name: name, Factor: factor}
		}
	}
	x.Lots, x.Check = r.Intn(4) > 0, r.Intn(2) == 0
	x.Serial = r.Intn(8) == 0 || x.Lots && r.Intn(2) == 0
	return x
}

// TestByTheWords: P7.1 to P7.4, thousands of random items and houses held against the words of the document.
func TestByTheWords(t *testing.T) {
	r := rand.New(rand.NewSource(7))
	seen := map[api.Errno]int{}
	for range 300 {
		l := many(r.Intn(70))
		if r.Intn(2) == 0 {
			r.Shuffle(len(l), func(i, j int) { l[i], l[j] = l[j], l[i] })
		}
		h := houseOf(l)
		for range 60 {
			x := anyItem(r)
			errno(t, "Check", Check(x), checkByWords(x))
			want, e := addByWords(h.Items, x)
			g, got := Add(h, x)
			seen[e]++
			if got != e || !slices.Equal(g.Items, want) {
				t.Fatalf("%+v added to %d items: error %d, want %d", x, len(h.Items), int(got), int(e))
			}
			if e == api.OK {
				same(t, "the house", g, houseOf(want))
				h = g
			}
		}
	}
	for _, e := range []api.Errno{api.OK, api.ErrName, api.ErrText, api.ErrNum, api.ErrThere, api.ErrLot, api.ErrFull} {
		if seen[e] < 20 {
			t.Errorf("error %d came up %d times", int(e), seen[e])
		}
	}
}
