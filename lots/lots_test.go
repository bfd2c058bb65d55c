package lots

import (
	"cmp"
	"math"
	"math/big"
	"math/rand"
	"reflect"
	"slices"
	"strconv"
	"strings"
	"testing"

	"stevedore/api"
)

// zero is a house without anything: the one beside an error.
var zero api.House

// number is a number that a test wrote out.
func number(s string) int {
	n, err := strconv.Atoi(s)
	if err != nil {
		panic(s)
	}
	return n
}

// itemsOf makes items of words like "milk+L clock+LS bolt": L is kept by lots, S is serial.
func itemsOf(text string) []api.Item {
	var l []api.Item
	for _, w := range strings.Fields(text) {
		code, flags, _ := strings.Cut(w, "+")
		l = append(l, api.Item{Code: code, Lots: strings.Contains(flags, "L"), Serial: strings.Contains(flags, "S")})
	}
	return l
}

// lotsOf makes lots of words like "milk/a=30"; without a day, the Expiry is 0.
func lotsOf(text string) []api.Lot {
	var l []api.Lot
	for _, w := range strings.Fields(text) {
		name, day, has := strings.Cut(w, "=")
		item, code, _ := strings.Cut(name, "/")
		x := api.Lot{Item: item, Code: code}
		if has {
			x.Expiry = number(day)
		}
		l = append(l, x)
	}
	return l
}

// lotOf makes a lot of a word.
func lotOf(word string) api.Lot { return lotsOf(word)[0] }

// quantsOf makes quants of words like "b1/clock/7/2=1": the bin, the item, the lot, the status, and how much.
func quantsOf(text string) []api.Quant {
	var l []api.Quant
	for _, w := range strings.Fields(text) {
		name, qty, _ := strings.Cut(w, "=")
		f := strings.Split(name, "/")
		l = append(l, api.Quant{Key: api.Key{Bin: f[0], Item: f[1], Lot: f[2], Status: number(f[3])}, Qty: number(qty)})
	}
	return l
}

// many is a sorted list of n lots of milk: c000, c002, c004 and so on.
func many(n int) []api.Lot {
	var l []api.Lot
	for i := range n {
		code := strconv.Itoa(1000 + 2*i)
		l = append(l, api.Lot{Item: "milk", Code: "c" + code[1:], Expiry: i})
	}
	return l
}

// usual are items of each sort: kept by lots or not, and serial or not.
const usual = "bolt clock+LS gem+S milk+L soda+L"

// houseOf is a house with these items and lots, and something in each other list.
func houseOf(items string, lots []api.Lot) api.House {
	k := api.Key{Bin: "bin", Item: "else", Lot: "lot", Status: api.Free}
	return api.House{
		Items:   itemsOf(items),
		Lots:    lots,
		Zones:   []api.Zone{{Code: "zone", Site: "site"}},
		Bins:    []api.Bin{{Code: "bin", Zone: "zone", Kind: api.Shelf, Volume: 5}},
		Quants:  []api.Quant{{Key: k, Qty: 4, Held: 3}},
		Rules:   []api.Rule{{Item: "else", Zone: "zone", Rank: 1}},
		Notices: []api.Notice{{Code: "notice", Site: "site"}},
		Orders:  []api.Order{{Code: "order", Site: "site"}},
		Claims:  []api.Claim{{Order: "order", Line: 1, Key: k, Qty: 3, Task: 7}},
		Tasks:   []api.Task{{Number: 7, Kind: api.Pick, Order: "order", From: k, To: "cart", Qty: 3}},
		Parcels: []api.Parcel{{Bin: "carton", Order: "order"}},
		Sent:    []api.Sent{{Order: "order", Item: "else", Lot: "lot", Qty: 2, Back: 1}},
		Counted: []api.Counted{{Key: k, Qty: 4}},
		Totals:  []api.Total{{Item: "else", Lot: "lot", In: 6, Out: 2}}, LastTask: 7,
	}
}

// stocked is a house with these items, lots and quants.
func stocked(items, lots, quants string) api.House {
	h := houseOf(items, lotsOf(lots))
	h.Quants = quantsOf(quants)
	return h
}

// errno checks an error.
func errno(t *testing.T, what string, got, want api.Errno) {
	t.Helper()
	if got != want {
		t.Errorf("%s = %d, want %d", what, int(got), int(want))
	}
}

// same checks two houses, all of their lists; an empty list may be nil or not.
func same(t *testing.T, what string, got, want api.House) {
	t.Helper()
	if len(got.Lots) == 0 && len(want.Lots) == 0 {
		got.Lots, want.Lots = nil, nil
	}
	if !reflect.DeepEqual(got, want) {
		t.Errorf("%s is %+v, want %+v", what, got, want)
	}
}

// refuses checks that Add answers an error, and nothing beside it.
func refuses(t *testing.T, what string, h api.House, x api.Lot, want api.Errno) {
	t.Helper()
	g, e := Add(h, x)
	errno(t, what, e, want)
	same(t, what+": the house beside the error", g, zero)
}

// add adds a lot, which must go well.
func add(t *testing.T, what string, h api.House, x api.Lot) api.House {
	t.Helper()
	g, e := Add(h, x)
	errno(t, what, e, api.OK)
	return g
}

// fits checks what Fits answers.
func fits(t *testing.T, h api.House, item, lot string, qty int, want api.Errno) {
	t.Helper()
	errno(t, "Fits of "+strconv.Itoa(qty)+" of "+strconv.Quote(item)+" in "+strconv.Quote(lot), Fits(h, item, lot, qty), want)
}

// day checks what Day answers.
func day(t *testing.T, h api.House, item, lot string, want int) {
	t.Helper()
	if got := Day(h, item, lot); got != want {
		t.Errorf("Day of %q and %q = %d, want %d", item, lot, got, want)
	}
}

// TestExamples: the document's examples.
func TestExamples(t *testing.T) {
	h := stocked("milk+L", "milk/a=30", "")
	fits(t, h, "milk", "a", 1, api.OK)
	fits(t, h, "milk", "b", 1, api.ErrLot)
	fits(t, h, "milk", "", 1, api.ErrLot)
	day(t, h, "milk", "a", 30)
	day(t, h, "milk", "b", 100001)
}

// TestAdd: P9.1, each error, the first of several, and what is returned with it.
func TestAdd(t *testing.T) {
	long := strings.Repeat("x", 13)
	for _, c := range []struct {
		why  string
		x    api.Lot
		want api.Errno
	}{
		{"a lot", lotOf("milk/b=9"), api.OK},
		{"a lot without a day", lotOf("milk/b"), api.OK},
		{"a lot of a serial item", lotOf("clock/b"), api.OK},
		{"a lot with the code of an item", lotOf("milk/milk"), api.OK},
		{"a lot of an item without other lots", lotOf("soda/b=9"), api.OK},
		{"a lot that another item has", lotOf("soda/a=30"), api.OK},

		{"no such item", lotOf("beer/b"), api.ErrNone},
		{"no item", lotOf("/b"), api.ErrNone},
		{"the zero lot", api.Lot{}, api.ErrNone},
		{"the begin of an item's code", lotOf("mil/b"), api.ErrNone},
		{"an item's code and more", lotOf("milks/b"), api.ErrNone},
		{"other letters", lotOf("Milk/b"), api.ErrNone},
		{"an item that is in other lists only", lotOf("else/b"), api.ErrNone},

		{"not kept by lots", lotOf("bolt/b"), api.ErrLot},
		{"serial, and not kept by lots", lotOf("gem/b"), api.ErrLot},

		{"an empty code", lotOf("milk/"), api.ErrName},
		{"a code of 12 bytes", lotOf("milk/" + long[1:]), api.OK},
		{"a code of 13 bytes", lotOf("milk/" + long), api.ErrText},
		{"a code of 13 bytes that no name has", api.Lot{Item: "milk", Code: strings.Repeat(" ", 13)}, api.ErrText},
		{"a code with a space", api.Lot{Item: "milk", Code: "a b"}, api.ErrName},
		{"a code of bytes 33 and 126", lotOf("milk/!~"), api.OK},
		{"a code with byte 32", api.Lot{Item: "milk", Code: "b "}, api.ErrName},
		{"a code with byte 127", lotOf("milk/b\x7f"), api.ErrName},
		{"a code with byte 255", lotOf("milk/\xff"), api.ErrName},
		{"a code with a zero byte", lotOf("milk/\x00b"), api.ErrName},
		{"a code of more than ASCII", lotOf("milk/é"), api.ErrName},

		{"there", lotOf("milk/a=30"), api.ErrThere},
		{"there, with another day", lotOf("milk/a=31"), api.ErrThere},
		{"there, without a day", lotOf("milk/a"), api.ErrThere},

		{"no such item, and all else wrong", api.Lot{Item: "beer", Expiry: -1}, api.ErrNone},
		{"no such item, and a long code", lotOf("beer/" + long), api.ErrNone},
		{"not kept by lots, and no code", lotOf("bolt/=-1"), api.ErrLot},
		{"not kept by lots, and a long code", lotOf("bolt/" + long + "=100001"), api.ErrLot},
		{"not kept by lots, and a wrong day", lotOf("bolt/b=100001"), api.ErrLot},
		{"not kept by lots, and there", lotOf("bolt/a"), api.ErrLot},
		{"no code, and a wrong day", lotOf("milk/=-1"), api.ErrName},
		{"a long code, and a wrong day", lotOf("milk/" + long + "=100001"), api.ErrText},
		{"a wrong day, and there", lotOf("milk/a=-1"), api.ErrNum},
		{"a day too great, and there", lotOf("milk/a=100001"), api.ErrNum},
	} {
		h := houseOf(usual, lotsOf("bolt/a=1 milk/a=30"))
		if c.want != api.OK {
			refuses(t, c.why, h, c.x, c.want)
			continue
		}
		g := add(t, c.why, h, c.x)
		if len(g.Lots) != 3 || !slices.Contains(g.Lots, c.x) {
			t.Errorf("%s: the lots are %+v", c.why, g.Lots)
		}
	}
}

// TestAddFullLast: P9.1, in a house that is full, ErrFull comes behind each other error.
func TestAddFullLast(t *testing.T) {
	for _, n := range []int{128, 129} {
		h := houseOf(usual, many(n))
		for _, c := range []struct {
			lot  string
			want api.Errno
		}{
			{"beer/b", api.ErrNone}, {"bolt/b", api.ErrLot}, {"milk/", api.ErrName}, {"milk/0123456789012", api.ErrText},
			{"milk/b=-1", api.ErrNum}, {"milk/c000=100001", api.ErrNum}, {"milk/c000", api.ErrThere}, {"milk/c254=9", api.ErrThere},
			{"milk/b", api.ErrFull}, {"soda/c000", api.ErrFull}, {"clock/z", api.ErrFull},
		} {
			refuses(t, c.lot+" added to "+strconv.Itoa(n), h, lotOf(c.lot), c.want)
		}
	}
}

// TestAddDays: P9.1, the edges of an Expiry; what is added has it unchanged.
func TestAddDays(t *testing.T) {
	for _, c := range []struct {
		day  int
		want api.Errno
	}{
		{math.MinInt, api.ErrNum}, {-100000, api.ErrNum}, {-1, api.ErrNum}, {0, api.OK}, {1, api.OK}, {99999, api.OK}, {100000, api.OK},
		{100001, api.ErrNum}, {1 << 32, api.ErrNum}, {1<<32 + 1, api.ErrNum}, {math.MaxInt, api.ErrNum},
	} {
		what := "the Expiry " + strconv.Itoa(c.day)
		h, x := houseOf(usual, nil), api.Lot{Item: "milk", Code: "b", Expiry: c.day}
		if c.want != api.OK {
			refuses(t, what, h, x, c.want)
			continue
		}
		same(t, what, add(t, what, h, x), houseOf(usual, []api.Lot{x}))
	}
}

// TestAddPlaces: P9.1, where a lot goes, in lists that are sorted, and in others: by the item first.
func TestAddPlaces(t *testing.T) {
	for _, c := range []struct{ list, x, want string }{
		{"", "m/b=9", "m/b=9"},
		{"m/b=1", "m/a=9", "m/a=9 m/b=1"},
		{"m/b=1", "m/c=9", "m/b=1 m/c=9"},
		{"m/b=1", "l/b=9", "l/b=9 m/b=1"},
		{"m/b=1", "n/b=9", "m/b=1 n/b=9"},
		{"m/b=1", "l/z=9", "l/z=9 m/b=1"},
		{"m/b=1", "n/a=9", "m/b=1 n/a=9"},
		{"l/b l/d m/b m/d n/b n/d", "m/a=9", "l/b l/d m/a=9 m/b m/d n/b n/d"},
		{"l/b l/d m/b m/d n/b n/d", "m/c=9", "l/b l/d m/b m/c=9 m/d n/b n/d"},
		{"l/b l/d m/b m/d n/b n/d", "m/e=9", "l/b l/d m/b m/d m/e=9 n/b n/d"},
		{"l/b l/d m/b m/d n/b n/d", "l/a=9", "l/a=9 l/b l/d m/b m/d n/b n/d"},
		{"l/b l/d m/b m/d n/b n/d", "n/e=9", "l/b l/d m/b m/d n/b n/d n/e=9"},
		// Not by the day.
		{"m/b=90", "m/c=1", "m/b=90 m/c=1"},
		{"m/b=0 m/d=0", "m/c=1", "m/b m/c=1 m/d"},
		// Fields by themselves, not one behind the other: m and z precede ma and b.
		{"m/z=1", "ma/b=9", "m/z=1 ma/b=9"},
		{"ma/b=1", "m/z=9", "m/z=9 ma/b=1"},
		{"m/ab=1", "ma/b=9", "m/ab=1 ma/b=9"},
		{"ma/b=1", "m/ab=9", "m/ab=9 ma/b=1"},
		// Bytes, not letters or numbers.
		{"m/a=1 m/c=1", "m/B=9", "m/B=9 m/a=1 m/c=1"},
		{"m/B=1 m/a=1", "m/~=9", "m/B=1 m/a=1 m/~=9"},
		{"m/9=1", "m/10=9", "m/10=9 m/9=1"},
		{"m/b=1", "m/bb=9", "m/b=1 m/bb=9"},
		// In no order: ahead of the first one that is greater.
		{"m/d m/b", "m/c=9", "m/c=9 m/d m/b"},
		{"m/a m/e m/b m/f", "m/d=9", "m/a m/d=9 m/e m/b m/f"},
		{"n/a m/a l/a", "m/b=9", "m/b=9 n/a m/a l/a"},
		{"l/a n/a m/a", "m/b=9", "l/a m/b=9 n/a m/a"},
		{"m/d m/a", "n/a=9", "m/d m/a n/a=9"},
		{"m/a=1 m/a=2 m/c=1 m/c=2", "m/b=9", "m/a=1 m/a=2 m/b=9 m/c=1 m/c=2"},
	} {
		items, what := "l+L m+L ma+L n+L", c.x+" added to "+c.list
		same(t, what, add(t, what, houseOf(items, lotsOf(c.list)), lotOf(c.x)), houseOf(items, lotsOf(c.want)))
	}
}

// TestAddThere: P9.1, a lot that is there, wherever it stands; both the item and the code must be the same.
func TestAddThere(t *testing.T) {
	for _, l := range []string{"milk/b=1", "milk/b=9", "milk/b", "clock/a milk/a milk/b soda/b", "soda/b milk/b clock/b", "milk/c milk/b", "milk/b=1 milk/b=2", "zoo/b clock/z milk/b"} {
		refuses(t, "milk/b=9 added to "+l, houseOf(usual, lotsOf(l)), lotOf("milk/b=9"), api.ErrThere)
	}
	for _, l := range []string{"soda/b", "clock/b soda/b", "milk/a milk/c", "milk/bb", "milk/", "milk/B", "mil/kb", "milkb/", "/b", "b/milk"} {
		add(t, "milk/b added to "+l, houseOf(usual, lotsOf(l)), lotOf("milk/b=9"))
	}
}

// TestAddFull: P9.1 and T6, the limit, and a house beyond it: all lots count, of whatever item.
func TestAddFull(t *testing.T) {
	for _, c := range []struct {
		n    int
		want api.Errno
	}{
		{0, api.OK}, {1, api.OK}, {126, api.OK}, {127, api.OK}, {128, api.ErrFull}, {129, api.ErrFull}, {300, api.ErrFull},
	} {
		h := houseOf(usual, many(c.n))
		for _, lot := range []string{"milk/a", "milk/c001", "milk/d", "soda/c000", "clock/c000"} {
			what := lot + " added to " + strconv.Itoa(c.n)
			if c.want != api.OK {
				refuses(t, what, h, lotOf(lot), c.want)
			} else if g := add(t, what, h, lotOf(lot)); len(g.Lots) != c.n+1 {
				t.Errorf("%s: %d lots", what, len(g.Lots))
			}
		}
	}
	refuses(t, "a lot added to 128 of one key", houseOf(usual, slices.Repeat(lotsOf("soda/a"), 128)), lotOf("milk/a"), api.ErrFull)
}

// TestFirstItem: P9.1 and P9.2, items in no order, and of several with the code the first one.
func TestFirstItem(t *testing.T) {
	for _, c := range []struct {
		items            string
		add, lot, noLots api.Errno
	}{
		{"z m+L a", api.OK, api.OK, api.ErrLot},
		{"z m a+L", api.ErrLot, api.ErrLot, api.OK},
		{"m+L m", api.OK, api.OK, api.ErrLot},
		{"m m+L", api.ErrLot, api.ErrLot, api.OK},
		{"z m+LS a m", api.OK, api.ErrSerial, api.ErrLot},
		{"z m+L a m+LS", api.OK, api.OK, api.ErrLot},
		{"m+S m+LS", api.ErrLot, api.ErrLot, api.ErrSerial},
		{"z+L a+S", api.ErrNone, api.ErrNone, api.ErrNone},
	} {
		h := stocked(c.items, "m/a", "")
		fits(t, h, "m", "a", 2, c.lot)
		fits(t, h, "m", "", 2, c.noLots)
		if c.add != api.OK {
			refuses(t, "m/b with the items "+c.items, h, lotOf("m/b"), c.add)
			continue
		}
		add(t, "m/b with the items "+c.items, h, lotOf("m/b"))
	}
}

// TestFits: P9.2, each error, the first of several, and items that are kept by lots and not.
func TestFits(t *testing.T) {
	h := stocked(usual, "bolt/x clock/7 clock/8 gem/x milk/a=30 milk/old=1", "b1/clock/8/1=1 b1/gem//1=1 b1/milk/a/1=500 b1/bolt//1=70")
	for _, c := range []struct {
		item, lot string
		qty       int
		want      api.Errno
	}{
		// Kept by lots.
		{"milk", "a", 1, api.OK},
		{"milk", "a", 0, api.OK},
		{"milk", "a", -1, api.OK},
		{"milk", "a", 1000000001, api.OK},
		{"milk", "a", math.MaxInt, api.OK},
		{"milk", "a", math.MinInt, api.OK},
		{"milk", "old", 9, api.OK},
		{"milk", "b", 1, api.ErrLot},
		{"milk", "", 1, api.ErrLot},
		{"milk", "A", 1, api.ErrLot},
		{"milk", "aa", 1, api.ErrLot},
		{"milk", "7", 1, api.ErrLot},
		{"milk", "x", 1, api.ErrLot},
		{"milk", strings.Repeat("a", 13), 1, api.ErrLot},
		{"soda", "a", 1, api.ErrLot},
		{"soda", "", 1, api.ErrLot},

		// Not kept by lots: even a lot that is there doesn't count.
		{"bolt", "", 1, api.OK},
		{"bolt", "", 0, api.OK},
		{"bolt", "", math.MaxInt, api.OK},
		{"bolt", "", math.MinInt, api.OK},
		{"bolt", "x", 1, api.ErrLot},
		{"bolt", "a", 1, api.ErrLot},
		{"bolt", " ", 1, api.ErrLot},

		// Serial.
		{"clock", "7", 0, api.OK},
		{"clock", "7", 1, api.OK},
		{"clock", "7", 2, api.ErrSerial},
		{"clock", "8", 0, api.OK},
		{"clock", "8", 1, api.ErrSerial},
		{"gem", "", 0, api.OK},
		{"gem", "", 1, api.ErrSerial},

		// Several errors.
		{"clock", "9", 2, api.ErrLot},
		{"clock", "", 2, api.ErrLot},
		{"clock", "a", 1, api.ErrLot},
		{"gem", "x", 1, api.ErrLot},
		{"gem", "y", 9, api.ErrLot},

		// No such item, whatever lot is asked.
		{"beer", "", 1, api.ErrNone},
		{"beer", "a", 1, api.ErrNone},
		{"beer", "7", 2, api.ErrNone},
		{"", "", 1, api.ErrNone},
		{"", "a", 1, api.ErrNone},
		{"Milk", "a", 1, api.ErrNone},
		{"mil", "a", 1, api.ErrNone},
		{"milk ", "a", 1, api.ErrNone},
	} {
		fits(t, h, c.item, c.lot, c.qty, c.want)
	}
	fits(t, zero, "", "", 0, api.ErrNone)
	fits(t, zero, "milk", "a", 1, api.ErrNone)
}

// TestFitsAnyLot: P9.2, the lots that the house has are asked, in any order, with any code and day.
func TestFitsAnyLot(t *testing.T) {
	h := houseOf("m+L a+L z", nil)
	for _, c := range []struct {
		lots      []api.Lot
		item, lot string
		want      api.Errno
	}{
		{lotsOf("m/z m/c m/a"), "m", "a", api.OK},
		{lotsOf("m/z m/c m/a"), "m", "c", api.OK},
		{lotsOf("m/z m/c m/a"), "m", "b", api.ErrLot},
		{lotsOf("z/q m/b a/b"), "a", "b", api.OK},
		{lotsOf("z/q m/b a/b"), "a", "q", api.ErrLot},
		{lotsOf("m/a=1 m/a=2"), "m", "a", api.OK},
		{lotsOf("m/a=-5"), "m", "a", api.OK},
		{lotsOf("m/a=999999"), "m", "a", api.OK},
		{lotsOf("m/"), "m", "", api.OK},
		{lotsOf("m/"), "a", "", api.ErrLot},
		{lotsOf("z/"), "z", "", api.OK},
		{lotsOf("z/q"), "z", "", api.OK},
		{lotsOf("z/q"), "z", "q", api.ErrLot},
		{[]api.Lot{{Item: "m", Code: "a b"}}, "m", "a b", api.OK},
		{[]api.Lot{{Item: "m", Code: "\xff\x00"}}, "m", "\xff\x00", api.OK},
		{lotsOf("/a"), "m", "a", api.ErrLot},
		{lotsOf("ma/"), "m", "a", api.ErrLot},
		{nil, "m", "a", api.ErrLot},
		{many(300), "m", "c000", api.ErrLot},
	} {
		h.Lots = c.lots
		fits(t, h, c.item, c.lot, 1, c.want)
	}
	h.Items, h.Lots = append(itemsOf("m+L"), api.Item{}, api.Item{Code: "a b", Lots: true}), []api.Lot{{Item: "a b", Code: "l"}}
	fits(t, h, "", "", 7, api.OK)
	fits(t, h, "", "l", 7, api.ErrLot)
	fits(t, h, "a b", "l", 7, api.OK)
}

// TestFitsSerial: P9.2, what stands there in whatever bin and status counts, of this item and lot and of no other.
func TestFitsSerial(t *testing.T) {
	for _, c := range []struct {
		quants string
		sum    int
	}{
		{"", 0},
		{"b1/s/7/1=1", 1},
		{"b1/s/7/2=1", 1},
		{"b1/s/7/3=1", 1},
		{"b1/s/7/0=1", 1},
		{"/s/7/9=1", 1},
		{"b1/s/7/1=0", 0},
		{"b1/s/7/1=2", 2},
		{"b1/s/7/1=-1", -1},
		{"b1/s/7/1=-2", -2},

		// Others.
		{"b1/s/8/1=1", 0},
		{"b1/s//1=1", 0},
		{"b1/s/77/1=1", 0},
		{"b1/t/7/1=1", 0},
		{"b1/u/7/1=1", 0},
		{"b1/m/7/1=5", 0},
		{"7/s/b1/1=1", 0},
		{"b1/7/s/1=1", 0},
		{"b1/s/8/1=1 b1/t/7/1=1 b1/m/7/1=9 b1/s//1=4", 0},
		{"b1/s/8/1=1 b2/s/7/1=1 b3/t/7/1=1", 1},

		// Several bins and statuses.
		{"b1/s/7/1=1 b2/s/7/1=1", 2},
		{"b1/s/7/1=1 b1/s/7/2=1", 2},
		{"b1/s/7/1=1 b1/s/7/2=1 b1/s/7/3=1", 3},
		{"b1/s/7/1=1 b2/s/7/1=-1", 0},
		{"b1/s/7/1=5 b2/s/7/2=-3", 2},
		{"b1/s/7/1=-1 b2/s/7/2=-1 b3/s/7/3=3", 1},
		{"b1/s/7/1=0 b2/s/7/3=0 b9/s/7/2=1", 1},

		// In no order, and with a key twice: each counts.
		{"b2/s/7/3=1 b1/t/7/1=1 b1/s/7/2=1", 2},
		{"b1/s/7/1=1 b1/s/7/1=1", 2},
		{"b1/s/7/1=2 b1/s/7/1=-1 b1/s/7/1=-1", 0},
		{"b1/s/7/1=1 b1/t/7/1=3 b1/s/7/1=-1 b1/s/8/1=1", 0},
	} {
		h := stocked("s+LS t+LS u+S m+L", "s/7 s/8 t/7 m/7", c.quants)
		for sum := -3; sum <= 3; sum++ {
			want := api.OK
			if sum > 1 {
				want = api.ErrSerial
			}
			fits(t, h, "s", "7", sum-c.sum, want)
		}
		if t.Failed() {
			t.Fatalf("with the quants %q", c.quants)
		}
	}
}

// TestFitsHeld: P9.2, what is held of a quant doesn't count once more, nor what other lists say of the lot.
func TestFitsHeld(t *testing.T) {
	h := stocked("s+LS", "s/7", "b1/s/7/1=1")
	k := h.Quants[0].Key
	h.Quants[0].Held = 1
	h.Claims = []api.Claim{{Order: "o", Line: 1, Key: k, Qty: 5}}
	h.Tasks = []api.Task{{Number: 1, Kind: api.Pick, From: k, Qty: 5}}
	h.Sent = []api.Sent{{Order: "o", Item: "s", Lot: "7", Qty: 5}}
	h.Counted = []api.Counted{{Key: k, Qty: 5}}
	h.Totals = []api.Total{{Item: "s", Lot: "7", In: 5, Out: 2, Back: 3, Fixed: 4}}
	fits(t, h, "s", "7", 0, api.OK)
	fits(t, h, "s", "7", 1, api.ErrSerial)
	h.Quants = nil
	fits(t, h, "s", "7", 1, api.OK)
	fits(t, h, "s", "7", 2, api.ErrSerial)
}

// TestFitsOnlySerial: P9.2, a Serial item that is not kept by lots has the empty one; one that is not Serial may have any sum.
func TestFitsOnlySerial(t *testing.T) {
	quants := "b1/g//1=1 b2/g//2=2 b1/g/x/1=9 b1/m//1=1 b1/m/a/1=9 b1/b//1=9"
	h := stocked("g+S m+L b", "m/a", quants)
	for _, c := range []struct {
		qty  int
		want api.Errno
	}{
		{math.MinInt, api.OK}, {-9, api.OK}, {-3, api.OK}, {-2, api.OK}, {-1, api.ErrSerial}, {0, api.ErrSerial}, {1, api.ErrSerial},
	} {
		fits(t, h, "g", "", c.qty, c.want)
		fits(t, h, "g", "x", c.qty, api.ErrLot)
		fits(t, h, "m", "a", c.qty, api.OK)
		fits(t, h, "b", "", c.qty, api.OK)
	}
}

// TestFitsWraps: P9.2 and R4, sums that wrap around modulo 2^64.
func TestFitsWraps(t *testing.T) {
	const greatest, least = math.MaxInt, math.MinInt
	for _, c := range []struct {
		quants []int
		qty    int
		want   api.Errno
	}{
		{nil, greatest, api.ErrSerial},
		{nil, least, api.OK},
		{[]int{1}, greatest, api.OK},        // -2^63
		{[]int{greatest}, 1, api.OK},        // -2^63
		{[]int{greatest}, greatest, api.OK}, // -2
		{[]int{greatest, greatest}, 1, api.OK},
		{[]int{greatest, greatest}, 2, api.OK},        // 0
		{[]int{greatest, greatest}, 3, api.OK},        // 1
		{[]int{greatest, greatest}, 4, api.ErrSerial}, // 2
		{[]int{greatest, greatest, 1}, 3, api.ErrSerial},
		{[]int{1, greatest, 1, greatest}, 1, api.OK}, // 1
		{[]int{1, greatest, 1, greatest}, 2, api.ErrSerial},
		{[]int{least}, least, api.OK},            // 0
		{[]int{least}, least + 1, api.OK},        // 1
		{[]int{least}, least + 2, api.ErrSerial}, // 2
		{[]int{least}, -1, api.ErrSerial},        // 2^63 - 1
		{[]int{-1}, least, api.ErrSerial},        // 2^63 - 1
		{[]int{least, least}, 1, api.OK},
		{[]int{least, least}, 2, api.ErrSerial},
		{[]int{least, greatest}, 2, api.OK},        // 1
		{[]int{least, greatest}, 3, api.ErrSerial}, // 2
		{[]int{1 << 62, 1 << 62}, 0, api.OK},       // -2^63
		{[]int{1 << 62, 1 << 62, 1 << 62, 1 << 62}, 1, api.OK},
		{[]int{1 << 62, 1 << 62, 1 << 62, 1 << 62}, 2, api.ErrSerial},
		// What would wrap around by 32 bits does not.
		{[]int{1 << 31}, 1 << 31, api.ErrSerial},
		{[]int{1 << 31}, 0, api.ErrSerial},
		{nil, 1 << 32, api.ErrSerial},
		{[]int{1<<32 - 1}, 1, api.ErrSerial},
		{[]int{-1 << 32}, 1<<32 + 1, api.OK},
		{[]int{-1 << 32}, 1<<32 + 2, api.ErrSerial},
	} {
		h := stocked("g+S s+LS", "s/7", "")
		for i, n := range c.quants {
			bin := "b" + strconv.Itoa(i)
			h.Quants = append(h.Quants, api.Quant{Key: api.Key{Bin: bin, Item: "s", Lot: "7", Status: 1}, Qty: n})
			h.Quants = append(h.Quants, api.Quant{Key: api.Key{Bin: bin, Item: "g", Status: 1}, Qty: n})
		}
		fits(t, h, "s", "7", c.qty, c.want)
		fits(t, h, "g", "", c.qty, c.want)
		if t.Failed() {
			t.Fatalf("with the quantities %v", c.quants)
		}
	}
}

// TestDay: P9.3, the first lot of the item and code, in lists in any order; nothing else is asked.
func TestDay(t *testing.T) {
	for _, c := range []struct {
		lots, item, lot string
		want            int
	}{
		{"milk/a=30", "milk", "a", 30},
		{"milk/a=1", "milk", "a", 1},
		{"milk/a=0", "milk", "a", 100001},
		{"milk/a=99999", "milk", "a", 99999},
		{"milk/a=100000", "milk", "a", 100000},
		{"", "milk", "a", 100001},
		{"milk/a=30", "milk", "b", 100001},
		{"milk/a=30", "milk", "", 100001},
		{"milk/a=30", "milk", "A", 100001},
		{"milk/a=30", "milk", "aa", 100001},
		{"milk/a=30", "soda", "a", 100001},
		{"milk/a=30", "", "a", 100001},
		{"milk/a=30", "", "", 100001},
		{"milk/a=30", "a", "milk", 100001},
		{"milk/a=30", "mil", "ka", 100001},
		{"milk/a=30 milk/b=20 soda/a=10", "milk", "a", 30},
		{"milk/a=30 milk/b=20 soda/a=10", "milk", "b", 20},
		{"milk/a=30 milk/b=20 soda/a=10", "soda", "a", 10},
		{"milk/a=30 milk/b=20 soda/a=10", "soda", "b", 100001},

		// In no order, and a key twice: the first lot says it, even that there is no day.
		{"soda/a=10 milk/b=20 milk/a=30", "milk", "a", 30},
		{"soda/a=10 milk/b=20 milk/a=30", "milk", "b", 20},
		{"soda/a=10 milk/b=20 milk/a=30", "soda", "a", 10},
		{"milk/a=30 milk/a=20", "milk", "a", 30},
		{"milk/a=20 milk/a=30", "milk", "a", 20},
		{"milk/a=0 milk/a=30", "milk", "a", 100001},
		{"milk/a=30 milk/a=0", "milk", "a", 30},
		{"milk/c=5 milk/a=0 soda/a=4 milk/a=30", "milk", "a", 100001},
		{"milk/c=5 milk/a=7 soda/a=4 milk/a=30", "milk", "a", 7},

		// Lots that Add refuses.
		{"milk/a=-1", "milk", "a", -1},
		{"milk/a=100001", "milk", "a", 100001},
		{"milk/a=100002", "milk", "a", 100002},
		{"milk/a=-9223372036854775808", "milk", "a", math.MinInt},
		{"milk/a=9223372036854775807", "milk", "a", math.MaxInt},
		{"milk/=30", "milk", "", 30},
		{"/a=30", "", "a", 30},
		{"/=30", "", "", 30},
		{"/=0", "", "", 100001},

		// The item isn't asked: it may be kept otherwise, or not be there.
		{"bolt/a=30", "bolt", "a", 30},
		{"bolt/a=30", "bolt", "", 100001},
		{"beer/a=30", "beer", "a", 30},
		{"clock/7=30", "clock", "7", 30},
	} {
		day(t, houseOf(usual, lotsOf(c.lots)), c.item, c.lot, c.want)
		day(t, api.House{Lots: lotsOf(c.lots)}, c.item, c.lot, c.want)
		if t.Failed() {
			t.Fatalf("with the lots %q", c.lots)
		}
	}
}

// TestAddedFits: P9.4, while a house fills up in any order, each lot that was added fits its item, a Serial one as long as no piece of it stands there.
func TestAddedFits(t *testing.T) {
	names := strings.Fields("clock milk soda")
	h := houseOf(usual, nil)
	var all []api.Lot
	for i := range api.MaxLots {
		code := i * 37 % api.MaxLots
		x := api.Lot{Item: names[code%3], Code: "l" + strconv.Itoa(code/3), Expiry: code * 781}
		for _, n := range []int{0, 1} {
			fits(t, h, x.Item, x.Code, n, api.ErrLot)
		}
		h = add(t, x.Item+"/"+x.Code, h, x)
		all = append(all, x)
		for _, y := range all {
			fits(t, h, y.Item, y.Code, 1, api.OK)
			day(t, h, y.Item, y.Code, cmp.Or(y.Expiry, 100001))
		}
	}
	slices.SortFunc(all, func(a, b api.Lot) int { return slices.Compare([]string{a.Item, a.Code}, []string{b.Item, b.Code}) })
	same(t, "the full house", h, houseOf(usual, all))
	for i, x := range all {
		// Every second lot has a piece in stock.
		if i%2 == 0 {
			h.Quants = append(h.Quants, api.Quant{Key: api.Key{Bin: "bin", Item: x.Item, Lot: x.Code, Status: 1 + i%3}, Qty: 1})
		}
	}
	for i, x := range all {
		want := api.OK
		if x.Item == "clock" && i%2 == 0 {
			want = api.ErrSerial
		}
		fits(t, h, x.Item, x.Code, 1, want)
	}
}

// TestEarlier: P9.4, of two lots that were added, the one that expires earlier has the smaller day, and one that never expires the greatest.
func TestEarlier(t *testing.T) {
	inOrder := []int{1, 2, 9, 10, 29, 30, 31, 99999, 100000, 0}
	for i, a := range inOrder {
		for j, b := range inOrder {
			h := add(t, "a", houseOf(usual, nil), api.Lot{Item: "milk", Code: "a", Expiry: a})
			h = add(t, "b", h, api.Lot{Item: "milk", Code: "b", Expiry: b})
			if got, want := cmp.Compare(Day(h, "milk", "a"), Day(h, "milk", "b")), cmp.Compare(i, j); got != want {
				t.Errorf("the days of the Expiries %d and %d compare as %d, want %d", a, b, got, want)
			}
		}
	}
}

// roomy is l with unused capacity behind it, filled with marks that no call may touch.
func roomy[T any](l []T, mark T) (short, whole []T) {
	whole = append(slices.Clone(l), mark, mark, mark)
	return whole[:len(l)], whole
}

// TestNothingElseChanges: R2, the house that is passed stays as it is, its lists and their unused capacity too; what comes back has its own lots.
func TestNothingElseChanges(t *testing.T) {
	items, allItems := roomy(itemsOf(usual), api.Item{Code: "mark"})
	quants, allQuants := roomy(quantsOf("b2/clock/b/1=1 b1/milk/d/1=5 b1/clock/b/2=1"), api.Quant{Qty: 99})
	keptItems, keptQuants := slices.Clone(allItems), slices.Clone(allQuants)
	for _, l := range [][]api.Lot{nil, lotsOf("milk/b=1"), lotsOf("clock/b milk/b=1 milk/d soda/f"), lotsOf("soda/f clock/b milk/d milk/b=2 milk/b=3"), many(127), many(128)} {
		for _, x := range lotsOf("milk/a=5 milk/b milk/c=100001 milk/e=7 soda/g soda/ bolt/b beer/b clock/b clock/a milk/c000=4") {
			lots, allLots := roomy(l, lotOf("mark/mark=77"))
			keptLots := slices.Clone(allLots)
			h := houseOf(usual, lots)
			h.Items, h.Quants = items, quants
			first, e := Add(h, x)
			second, again := Add(h, x)
			fit, last := Fits(h, x.Item, x.Code, 1), Day(h, x.Item, x.Code)
			what := x.Item + "/" + x.Code + " added to " + strconv.Itoa(len(l)) + " lots"
			for _, g := range []api.House{first, second} {
				own := g.Lots[:cap(g.Lots)]
				for i := range own {
					own[i].Code = "changed" + own[i].Code
				}
			}
			if e != again || fit != Fits(h, x.Item, x.Code, 1) || last != Day(h, x.Item, x.Code) {
				t.Errorf("%s: another answer the second time", what)
			}
			if !slices.Equal(allLots, keptLots) || !slices.Equal(allItems, keptItems) || !slices.Equal(allQuants, keptQuants) {
				t.Fatalf("%s: a list changed, or what is behind it, or the new lots share its memory", what)
			}
			if e == api.OK && strings.HasPrefix(second.Lots[0].Code, "changedchanged") {
				t.Errorf("%s: two answers share memory", what)
			}
			want := houseOf(usual, keptLots[:len(l)])
			want.Quants = keptQuants[:len(quants)]
			same(t, what+": the house that was passed", h, want)
		}
	}
}

// firstOf is the first element that is so.
func firstOf[T any](l []T, is func(T) bool) (T, bool) {
	if i := slices.IndexFunc(l, is); i >= 0 {
		return l[i], true
	}
	var none T
	return none, false
}

// itemByWords and lotByWords are what "h has" means.
func itemByWords(h api.House, code string) (api.Item, bool) {
	return firstOf(h.Items, func(x api.Item) bool { return x.Code == code })
}

func lotByWords(h api.House, item, code string) (api.Lot, bool) {
	return firstOf(h.Lots, func(x api.Lot) bool { return x.Item == item && x.Code == code })
}

// addByWords is P9.1, word by word.
func addByWords(h api.House, x api.Lot) ([]api.Lot, api.Errno) {
	item, hasItem := itemByWords(h, x.Item)
	_, there := lotByWords(h, x.Item, x.Code)
	strange := strings.IndexFunc(x.Code, func(r rune) bool { return r < 33 || r > 126 }) >= 0
	for _, c := range []struct {
		wrong bool
		e     api.Errno
	}{
		{!hasItem, api.ErrNone}, {!item.Lots, api.ErrLot}, {len(x.Code) > 12, api.ErrText}, {x.Code == "" || strange, api.ErrName},
		{x.Expiry < 0 || x.Expiry > 100000, api.ErrNum}, {there, api.ErrThere}, {len(h.Lots) >= 128, api.ErrFull},
	} {
		if c.wrong {
			return nil, c.e
		}
	}
	place := slices.IndexFunc(h.Lots, func(y api.Lot) bool { return y.Item > x.Item || y.Item == x.Item && y.Code > x.Code })
	if place < 0 {
		place = len(h.Lots)
	}
	return slices.Insert(slices.Clone(h.Lots), place, x), api.OK
}

// fitsByWords is P9.2, word by word, by a sum that is taken modulo 2^64 in the end.
func fitsByWords(h api.House, item, lot string, qty int) api.Errno {
	x, found := itemByWords(h, item)
	_, has := lotByWords(h, item, lot)
	switch {
	case !found:
		return api.ErrNone
	case x.Lots && !has, !x.Lots && lot != "":
		return api.ErrLot
	case !x.Serial:
		return api.OK
	}
	sum := big.NewInt(int64(qty))
	for _, q := range h.Quants {
		if q.Item == item && q.Lot == lot {
			sum.Add(sum, big.NewInt(int64(q.Qty)))
		}
	}
	half, whole := new(big.Int).Lsh(big.NewInt(1), 63), new(big.Int).Lsh(big.NewInt(1), 64)
	sum.Add(sum, half).Mod(sum, whole).Sub(sum, half)
	if sum.Cmp(big.NewInt(1)) > 0 {
		return api.ErrSerial
	}
	return api.OK
}

// dayByWords is P9.3, word by word.
func dayByWords(h api.House, item, lot string) int {
	if x, found := lotByWords(h, item, lot); found && x.Expiry != 0 {
		return x.Expiry
	}
	return 100001
}

// anyHouse is a random house: few names, so that they come up again, in lists that are sorted or not.
func anyHouse(r *rand.Rand, names func() string) api.House {
	h := houseOf("", nil)
	for range r.Intn(6) {
		h.Items = append(h.Items, api.Item{Code: names(), Lots: r.Intn(4) > 0, Serial: r.Intn(2) == 0})
	}
	for range []int{r.Intn(8), 120 + r.Intn(10)}[r.Intn(2)] {
		h.Lots = append(h.Lots, api.Lot{Item: names(), Code: names(), Expiry: anyDay(r)})
	}
	if r.Intn(2) == 0 {
		slices.SortStableFunc(h.Lots, func(a, b api.Lot) int { return slices.Compare([]string{a.Item, a.Code}, []string{b.Item, b.Code}) })
	}
	for range r.Intn(30) {
		qty := []int{1, 1, r.Intn(7) - 3, r.Int() - r.Int(), math.MaxInt, math.MinInt}[r.Intn(6)]
		h.Quants = append(h.Quants, api.Quant{Key: api.Key{Bin: names(), Item: names(), Lot: names(), Status: r.Intn(5)}, Qty: qty})
	}
	return h
}

// anyDay is a random Expiry: mostly one that may be, sometimes one at an edge or behind it.
func anyDay(r *rand.Rand) int {
	if r.Intn(4) > 0 {
		return r.Intn(100001)
	}
	return []int{-1, 0, 1, 100000, 100001, math.MinInt, math.MaxInt}[r.Intn(7)]
}

// TestByTheWords: P9.1 to P9.3, many random houses held against the words of the document.
func TestByTheWords(t *testing.T) {
	r := rand.New(rand.NewSource(9))
	names := func() string {
		if r.Intn(12) == 0 {
			return []string{"", "a b", "abcdefghijkl", "abcdefghijklm", "\x7f"}[r.Intn(5)]
		}
		return []string{"a", "b", "c", "ab", "B", "a" + strconv.Itoa(r.Intn(40))}[r.Intn(6)]
	}
	added, fitted, days := map[api.Errno]int{}, map[api.Errno]int{}, map[int]int{}
	for range 4000 {
		h := anyHouse(r, names)
		for range 20 {
			x := api.Lot{Item: names(), Code: names(), Expiry: anyDay(r)}
			want, e := addByWords(h, x)
			g, got := Add(h, x)
			if got != e || !slices.Equal(g.Lots, want) {
				t.Fatalf("Add of %+v to %+v: %d %+v, want %d %+v", x, h, int(got), g.Lots, int(e), want)
			}
			qty := []int{0, 1, 2, r.Intn(9) - 4, math.MaxInt, math.MinInt}[r.Intn(6)]
			fit := fitsByWords(h, x.Item, x.Code, qty)
			fits(t, h, x.Item, x.Code, qty, fit)
			last := dayByWords(h, x.Item, x.Code)
			day(t, h, x.Item, x.Code, last)
			if t.Failed() {
				t.Fatalf("in the house %+v", h)
			}
			added[e]++
			fitted[fit]++
			days[cmp.Compare(last, 100001)]++
			if e == api.OK {
				h = g
			}
		}
	}
	for _, e := range []api.Errno{api.OK, api.ErrNone, api.ErrLot, api.ErrText, api.ErrName, api.ErrNum, api.ErrThere, api.ErrFull} {
		if added[e] < 100 {
			t.Errorf("error %d of Add came up %d times", int(e), added[e])
		}
	}
	for _, e := range []api.Errno{api.OK, api.ErrNone, api.ErrLot, api.ErrSerial} {
		if fitted[e] < 100 {
			t.Errorf("error %d of Fits came up %d times", int(e), fitted[e])
		}
	}
	for _, sign := range []int{-1, 0, 1} {
		if days[sign] < 100 {
			t.Errorf("a day on side %d of 100001 came up %d times", sign, days[sign])
		}
	}
}
