package rules

import (
	"math"
	"slices"
	"strconv"
	"strings"
	"testing"

	"stevedore/api"
	"stevedore/room"
)

// suggests checks what Suggest answers: a bin, or an error and no bin.
func suggests(t *testing.T, why string, h api.House, site, item string, qty int, bin string, want api.Errno) {
	t.Helper()
	if got, e := Suggest(h, site, item, qty); got != bin || e != want {
		t.Errorf("%s: Suggest of %d of %q at %q = %q, %d, want %q, %d", why, qty, item, site, got, int(e), bin, int(want))
	}
}

// fill puts so many nuts more into a bin, none of which may be more than it holds.
func fill(t *testing.T, h api.House, bin string, qty int) api.House {
	t.Helper()
	errno(t, strconv.Itoa(qty)+" nuts into "+strconv.Quote(bin), room.Fits(h, bin, "nut", qty), api.OK)
	h.Quants = append(slices.Clone(h.Quants), quantsOf(bin+"/nut="+strconv.Itoa(qty))...)
	return h
}

// order checks the order in which shelves are suggested for a nut: each is suggested once, for it holds one.
func order(t *testing.T, why string, h api.House, site, bins string) {
	t.Helper()
	for _, bin := range strings.Fields(bins) {
		suggests(t, why, h, site, "nut", 1, bin, api.OK)
		if t.Failed() {
			return
		}
		h = fill(t, h, bin, 1)
	}
	suggests(t, why+": each is full", h, site, "nut", 1, "", api.ErrNowhere)
}

// TestExamples: the document's examples, with the rules in each order, and added one by one.
func TestExamples(t *testing.T) {
	rules := rulesOf("/y/1 nut/z/1 /z/0")
	bins := binsOf("y1/y/1/0=1,1 y2/y/2/0=1,1 z1/z/0/0=1,1")
	for _, places := range [][3]int{{0, 1, 2}, {0, 2, 1}, {1, 0, 2}, {1, 2, 0}, {2, 0, 1}, {2, 1, 0}} {
		laid := houseOf(itemsOf("nut=1,1"), zonesOf("y/s z/s"), bins, nil, nil)
		added := laid
		for _, i := range places {
			laid.Rules = append(laid.Rules, rules[i])
			g, e := Add(added, rules[i])
			errno(t, "the rules of the example", e, api.OK)
			added = g
		}
		order(t, "the example", laid, "s", "z1 y1 y2")
		order(t, "the example's rules, added", added, "s", "z1 y1 y2")
	}
}

// TestOrderOfRules: P13.2, by rank, then with an item ahead of without, then by zone, then as they stand. Each zone has one shelf of its name, with room for one nut.
func TestOrderOfRules(t *testing.T) {
	for _, c := range []struct{ why, rules, bins string }{
		{"no rule", "", ""},
		{"one rule of the item", "nut/y/5", "y"},
		{"one rule of any item", "/y/5", "y"},
		{"a rule of another item", "pin/y/5", ""},
		{"a rule of another item, of a better rank", "pin/x/0 nut/y/5", "y"},
		{"an item in another case", "Nut/y/5 NUT/z/5", ""},
		{"items that begin alike", "nu/x/1 nut/y/5 nuts/z/1", "y"},

		{"two ranks", "nut/x/2 nut/y/1", "y x"},
		{"two ranks of any item", "/x/2 /y/1", "y x"},
		{"three ranks, as numbers", "nut/x/100 nut/y/20 nut/z/3", "z y x"},
		{"the edges of ranks", "nut/w/999 nut/x/998 nut/y/1 nut/z/0", "z y x w"},
		{"the rank ahead of the item", "/z/1 nut/y/2", "z y"},
		{"the rank ahead of the item, the other way", "/z/2 nut/y/1", "y z"},
		{"the rank ahead of the zone", "nut/x/3 nut/y/2 nut/z/1", "z y x"},
		{"a rank below 0", "nut/x/0 nut/y/-1 nut/z/1", "y x z"},
		{"ranks far apart", "nut/x/9223372036854775807 nut/y/-9223372036854775808 nut/z/0", "y z x"},

		{"one rank, with and without an item", "/x/1 nut/y/1", "y x"},
		{"one rank, without an item and with", "nut/y/1 /x/1", "y x"},
		{"one rank, the item ahead of the zone", "/w/1 /x/1 nut/y/1 nut/z/1", "y z w x"},
		{"one rank and one zone, with and without an item", "/y/1 nut/y/1 /x/1", "y x"},
		{"one rank, two zones", "nut/z/1 nut/y/1", "y z"},
		{"one rank, two zones of any item", "/z/1 /y/1", "y z"},
		{"one rank, all zones", "nut/z/4 nut/x/4 nut/w/4 nut/y/4", "w x y z"},
		{"one rank, and rules of other items between", "pin/w/1 nut/z/1 pin/x/1 nut/y/1 pin/y/1", "y z"},

		{"two ranks of one zone", "nut/y/3 /y/1 nut/x/2", "y x"},
		{"two ranks of one zone, the other way", "nut/y/3 /y/4 nut/x/2", "x y"},
		{"one item and zone twice", "nut/y/3 nut/x/2 nut/y/1", "y x"},
		{"one item, zone and rank twice", "nut/y/1 nut/y/1 nut/x/1", "x y"},

		{"a zone without a shelf", "nut/none/0 nut/y/1", "y"},
		{"a zone that is not there", "nut/gone/0 nut/y/1", "y"},
		{"no zone", "nut//0 nut/y/1", "y"},
		{"a zone of another site", "nut/t/0 nut/y/1", "y"},
		{"zones without a shelf alone", "nut/none/0 nut/gone/0 nut//0 nut/t/0", ""},
		{"a bin's code as a zone", "nut/zb/0", ""},
		{"all at once", "/w/2 /x/1 nut/z/1 pin/y/0 /y/1 nut/w/2 nut/none/0 /z/0", "z x y w"},
	} {
		bins := binsOf("zb/z/0/0=1,1 yb/y/0/0=1,1 xb/x/0/0=1,1 wb/w/0/0=1,1 tb/t/0/0=1,1")
		h := houseOf(itemsOf("nut=1,1 pin=1,1"), zonesOf("none/s t/t w/s x/s y/s z/s"), bins, nil, rulesOf(c.rules))
		want := ""
		for _, zone := range strings.Fields(c.bins) {
			want += zone + "b "
		}
		order(t, c.why, h, "s", want)
	}
}

// TestZonesByBytes: P13.2, zones of one rank are compared byte by byte.
func TestZonesByBytes(t *testing.T) {
	zones := []string{"", "\x00", " ", "0", "10", "9", "A", "Z", "a", "aa", "ab", "b", "z", "\x7f", "\x80", "é", "\xff", "\xff\x00"}
	h := houseOf(itemsOf("nut=1,1"), nil, nil, nil, nil)
	for _, z := range slices.Backward(zones) {
		h.Zones = append(h.Zones, api.Zone{Code: z, Site: "s"})
		h.Bins = append(h.Bins, api.Bin{Code: z, Zone: z, Kind: api.Shelf, Volume: 1, Weight: 1})
		h.Rules = append(h.Rules, api.Rule{Zone: z, Rank: 1})
	}
	for _, z := range zones {
		suggests(t, "zones", h, "s", "nut", 1, z, api.OK)
		h.Quants = append(h.Quants, api.Quant{Key: api.Key{Bin: z, Item: "nut"}, Qty: 1})
	}
	suggests(t, "zones", h, "s", "nut", 1, "", api.ErrNowhere)
}

// TestOrderOfShelves: P13.2, by aisle, then by place, then by code; shelves alone, that are not frozen, of the zone and the site.
func TestOrderOfShelves(t *testing.T) {
	for _, c := range []struct{ why, bins, want string }{
		{"no bin", "", ""},
		{"one shelf", "a/z/5/5=1,1", "a"},
		{"two aisles", "a/z/2/0=1,1 b/z/1/0=1,1", "b a"},
		{"three aisles, as numbers", "a/z/100/0=1,1 b/z/20/0=1,1 c/z/3/0=1,1", "c b a"},
		{"the aisle ahead of the place", "a/z/2/0=1,1 b/z/1/9=1,1", "b a"},
		{"one aisle", "a/z/2/7=1,1 b/z/2/6=1,1", "b a"},
		{"one aisle, as numbers", "a/z/2/100=1,1 b/z/2/20=1,1 c/z/2/3=1,1", "c b a"},
		{"one place", "b/z/2/7=1,1 a/z/2/7=1,1", "a b"},
		{"one place in each aisle", "a/z/2/7=1,1 b/z/1/7=1,1", "b a"},
		{"one place, by bytes", "b/z/0/0=1,1 ab/z/0/0=1,1 B/z/0/0=1,1 a/z/0/0=1,1 10/z/0/0=1,1 9/z/0/0=1,1", "10 9 B a ab b"},
		{"the edges of aisles and places", "a/z/999/999=1,1 b/z/999/0=1,1 c/z/0/999=1,1 d/z/0/0=1,1", "d c b a"},
		{"numbers below 0", "a/z/0/0=1,1 b/z/0/-1=1,1 c/z/-1/5=1,1", "c b a"},
		{"numbers far apart", "a/z/9223372036854775807/0=1,1 b/z/-9223372036854775808/0=1,1 c/z/0/9223372036854775807=1,1 d/z/0/-9223372036854775808=1,1", "b d c a"},

		{"each kind", "a/z/0/0=9,9#2 b/z/0/0=9,9#3 c/z/0/0=9,9#4 d/z/9/9=1,1#1", "d"},
		{"kinds that are none", "a/z/0/0=9,9#0 b/z/0/0=9,9#5 c/z/0/0=9,9#-1 d/z/0/0=9,9#257", ""},
		{"each other kind alone", "a/z/0/0=9,9#2 b/z/0/0=9,9#3 c/z/0/0=9,9#4", ""},
		{"a frozen shelf", "a/z/0/0=9,9! b/z/1/0=1,1", "b"},
		{"frozen shelves alone", "a/z/0/0=9,9! b/z/1/0=1,1!", ""},
		{"a frozen dock", "a/z/0/0=9,9#2! b/z/1/0=1,1", "b"},
		{"another zone of the site", "a/y/0/0=9,9 b/z/1/0=1,1", "b"},
		{"another zone of another site", "a/t/0/0=9,9 b/z/1/0=1,1", "b"},
		{"a zone that is not there", "a/gone/0/0=9,9 b//0/0=9,9", ""},

		{"a shelf that is full", "a/z/0/0=0,0 b/z/0/1=1,0 c/z/0/2=0,1 d/z/1/0=1,1", "d"},
		{"a code twice, and the first one counts", "a/z/0/0=1,1 a/z/0/0=9,9 b/z/1/1=1,1", "a b"},
		{"a code twice, the second one nearer", "a/z/5/0=1,1 b/z/3/0=1,1 a/z/1/0=9,9", "a b"},
		{"a code twice, the first one full", "a/z/5/0=0,0 b/z/3/0=1,1 a/z/1/0=9,9", "b"},
		{"a code twice, the first one frozen", "a/z/5/0=1,1! b/z/3/0=1,1 a/z/1/0=9,9", "a b"},
		{"a code twice, the second one frozen", "a/z/5/0=1,1 b/z/3/0=1,1 a/z/1/0=9,9!", "b a"},
		{"a code twice, the first one a dock", "a/z/5/0=1,1#2 b/z/3/0=1,1 a/z/1/0=9,9", "a b"},
		{"a code twice, the second one a dock", "a/z/5/0=1,1 b/z/3/0=1,1 a/z/1/0=9,9#2", "b a"},
		{"a code twice, the first one in another zone of the site", "a/y/5/0=1,1 b/z/3/0=1,1 a/z/1/0=9,9", "a b"},
		{"a code twice, the second one in another zone of the site", "a/z/5/0=1,1 b/z/3/0=1,1 a/y/1/0=9,9", "b a"},
		{"a code twice, the first one at another site", "a/t/5/0=1,1 b/z/3/0=1,1 a/z/1/0=9,9", "b"},
		{"a code twice, the second one at another site", "a/z/5/0=1,1 b/z/3/0=1,1 a/t/1/0=9,9", "b a"},
		{"a code twice, the first one nowhere", "a/gone/5/0=1,1 b/z/3/0=1,1 a/z/1/0=9,9", "b"},
	} {
		h := houseOf(itemsOf("nut=1,1"), zonesOf("t/t y/s z/s"), binsOf(c.bins), nil, rulesOf("nut/z/1"))
		order(t, c.why, h, "s", c.want)
	}
}

// TestSites: P13.2, the shelves of a site are those of the site of the first zone of their zone's code.
func TestSites(t *testing.T) {
	for _, c := range []struct{ why, zones, bins, rules, site, want string }{
		{"no zone", "", "a/z/0/0=1,1", "/z/1", "s", ""},
		{"no such site", "z/s", "a/z/0/0=1,1", "/z/1", "t", ""},
		{"a site in another case", "z/s", "a/z/0/0=1,1", "/z/1", "S", ""},
		{"the empty site", "z/s", "a/z/0/0=1,1", "/z/1", "", ""},
		{"a zone as a site", "z/s", "a/z/0/0=1,1", "/z/1", "z", ""},
		{"two sites, the first", "y/t z/s", "a/y/0/0=1,1 b/z/0/0=1,1", "/y/1 /z/2", "t", "a"},
		{"two sites, the second", "y/t z/s", "a/y/0/0=1,1 b/z/0/0=1,1", "/y/1 /z/2", "s", "b"},
		{"two zones of a site", "y/s z/s", "a/y/0/0=1,1 b/z/0/0=1,1", "/y/1 /z/2", "s", "a b"},
		{"a zone twice", "z/s z/t", "a/z/0/0=1,1", "/z/1", "s", "a"},
		{"a zone twice, at the site of the second", "z/s z/t", "a/z/0/0=1,1", "/z/1", "t", ""},
		{"zones in no order", "z/s y/t x/s", "c/z/0/0=1,1 b/y/0/0=1,1 a/x/0/0=1,1", "/z/1 /y/1 /x/1", "s", "a c"},
		{"a site without a code", "z/", "a/z/0/0=1,1", "/z/1", "", "a"},
		{"a shelf whose zone is not there has the empty site", "z/s", "a/y/0/0=1,1 b/z/0/0=1,1", "/y/1 /z/1", "", "a"},
		{"a zone that is not there, at a site", "z/s", "a/y/0/0=1,1 b/z/0/0=1,1", "/y/1 /z/1", "s", "b"},
		{"a shelf and a rule without a zone", "z/s", "a//0/0=1,1", "//1", "", "a"},
		{"a zone without a code", "/s", "a//0/0=1,1", "//1", "s", "a"},
	} {
		h := houseOf(itemsOf("nut=1,1"), zonesOf(c.zones), binsOf(c.bins), nil, rulesOf(c.rules))
		order(t, c.why, h, c.site, c.want)
	}
}

// TestRoom: P13.2, a shelf is suggested if so many fit, and the next one that they fit into otherwise.
func TestRoom(t *testing.T) {
	for _, c := range []struct {
		why, items, bins, quants string
		qty                      int
		bin                      string
		want                     api.Errno
	}{
		{"just the volume", "nut=3,1", "a/z/1/0=9,99 b/z/2/0=99,99", "", 3, "a", api.OK},
		{"one more than the volume", "nut=3,1", "a/z/1/0=9,99 b/z/2/0=99,99", "", 4, "b", api.OK},
		{"just the weight", "nut=1,3", "a/z/1/0=99,9 b/z/2/0=99,99", "", 3, "a", api.OK},
		{"one more than the weight", "nut=1,3", "a/z/1/0=99,9 b/z/2/0=99,99", "", 4, "b", api.OK},
		{"a volume of one too few", "nut=3,1", "a/z/1/0=8,99 b/z/2/0=99,99", "", 3, "b", api.OK},
		{"a weight of one too few", "nut=1,3", "a/z/1/0=99,8 b/z/2/0=99,99", "", 3, "b", api.OK},
		{"just beside what stands there", "nut=3,1 pin=2,2", "a/z/1/0=9,9 b/z/2/0=99,99", "a/pin=3", 1, "a", api.OK},
		{"one more beside what stands there", "nut=3,1 pin=2,2", "a/z/1/0=9,9 b/z/2/0=99,99", "a/pin=3", 2, "b", api.OK},
		{"by weight beside what stands there", "nut=1,3 pin=2,2", "a/z/1/0=9,9 b/z/2/0=99,99", "a/pin=3", 2, "b", api.OK},
		{"what stands elsewhere", "nut=3,1 pin=2,2", "a/z/1/0=9,9 b/z/2/0=99,99", "b/pin=9 c/pin=9", 3, "a", api.OK},
		{"the last of several", "nut=3,1", "a/z/1/0=2,9 b/z/2/0=2,9 c/z/3/0=2,9 d/z/4/0=3,9", "", 1, "d", api.OK},
		{"between shelves that are full", "nut=3,1", "a/z/1/0=2,9 b/z/2/0=2,9 c/z/3/0=3,9 d/z/4/0=2,9", "", 1, "c", api.OK},
		{"none has room", "nut=3,1", "a/z/1/0=2,9 b/z/2/0=9,0", "", 1, "", api.ErrNowhere},
		{"room in two together is none", "nut=1,1", "a/z/1/0=5,5 b/z/2/0=5,5", "", 6, "", api.ErrNowhere},
		{"no measures", "nut=0,0", "a/z/1/0=0,0", "", 1000000000, "a", api.OK},
		{"overfull, and no measures", "nut=0,0 pin=1,1", "a/z/1/0=0,0 b/z/2/0=0,0", "a/pin=1", 5, "b", api.OK},

		{"a quantity of 0", "nut=3,1", "a/z/1/0=0,0", "", 0, "a", api.OK},
		{"a quantity of 0, into a full shelf", "nut=3,1", "a/z/1/0=3,1", "a/nut=1", 0, "a", api.OK},
		{"a quantity of 0, behind an overfull shelf", "nut=3,1", "a/z/1/0=2,1 b/z/2/0=0,0", "a/nut=1", 0, "b", api.OK},
		{"a quantity of 0 where there is no shelf", "nut=3,1", "a/y/1/0=9,9", "", 0, "", api.ErrNowhere},
		{"a negative quantity", "nut=3,1", "a/z/1/0=0,0", "", -5, "a", api.OK},
		{"a negative quantity, into an overfull shelf", "nut=3,1", "a/z/1/0=0,0", "a/nut=5", -5, "a", api.OK},
		{"a negative quantity, behind an overfull shelf", "nut=3,1", "a/z/1/0=0,0 b/z/2/0=0,0", "a/nut=6", -5, "b", api.OK},
		{"the most", "nut=1,1", "a/z/1/0=1000000000,1000000000", "", 1000000000, "a", api.OK},
		{"more than the most", "nut=1,1", "a/z/1/0=1000000000,1000000000 b/z/2/0=1000000001,1000000001", "", 1000000001, "b", api.OK},
		{"more than the most, of nothing", "nut=0,0", "a/z/1/0=0,0", "", math.MaxInt, "a", api.OK},
		{"the greatest number", "nut=1,0", "a/z/1/0=9223372036854775806,0 b/z/2/0=9223372036854775807,0", "", math.MaxInt, "b", api.OK},
		{"a product that wraps around", "nut=2,2", "a/z/1/0=0,0", "", math.MaxInt, "a", api.OK},
		{"the least number", "nut=1,1", "a/z/1/0=0,0", "", math.MinInt, "a", api.OK},

		{"the first item of a code", "nut=3,1 nut=1,1", "a/z/1/0=2,9 b/z/2/0=3,9", "", 1, "b", api.OK},
		{"what is of no item takes no room", "nut=3,1", "a/z/1/0=3,1", "a/gone=9", 1, "a", api.OK},
	} {
		h := houseOf(itemsOf(c.items), zonesOf("y/s z/s"), binsOf(c.bins), quantsOf(c.quants), rulesOf("/z/1"))
		suggests(t, c.why, h, "s", "nut", c.qty, c.bin, c.want)
	}
}

// TestNextRule: P13.2, a rule is left for the next one only when none of its shelves has room.
func TestNextRule(t *testing.T) {
	h := houseOf(itemsOf("nut=1,1"), zonesOf("x/s y/s z/s"), binsOf("x1/x/0/0=20,20 y1/y/0/0=2,2 y2/y/9/9=10,10 z1/z/0/0=5,5"), nil, rulesOf("/y/1 nut/z/1 /x/2"))
	for _, c := range []struct {
		qty  int
		bin  string
		want api.Errno
	}{{1, "z1", api.OK}, {5, "z1", api.OK}, {6, "y2", api.OK}, {10, "y2", api.OK}, {11, "x1", api.OK}, {20, "x1", api.OK}, {21, "", api.ErrNowhere}} {
		suggests(t, "three rules", h, "s", "nut", c.qty, c.bin, c.want)
	}
	full := fill(t, fill(t, h, "z1", 5), "y1", 1)
	suggests(t, "z1 is full", full, "s", "nut", 1, "y1", api.OK)
	suggests(t, "z1 is full", full, "s", "nut", 2, "y2", api.OK)
}

// TestNoItem: P13.2, ErrNone comes ahead of ErrNowhere, whatever rules and shelves there are.
func TestNoItem(t *testing.T) {
	for _, rules := range []string{"", "/z/1", "bolt/z/1", "/z/1 //0", "/none/1"} {
		for _, item := range []string{"bolt", "", "NUT", "nu", "nuts", "z", "s", " ", strings.Repeat("x", 300)} {
			h := houseOf(itemsOf("nut=1,1"), zonesOf("z/s"), binsOf("a/z/0/0=99,99"), quantsOf("a/bolt=1"), rulesOf(rules))
			for _, site := range []string{"s", "t", ""} {
				for _, qty := range []int{1, 0, -1, 100} {
					suggests(t, "no such item, with the rules "+rules, h, site, item, qty, "", api.ErrNone)
				}
			}
		}
	}
	suggests(t, "a house without anything", zero, "", "", 0, "", api.ErrNone)
	suggests(t, "a house with an item alone", api.House{Items: itemsOf("nut=1,1")}, "s", "nut", 1, "", api.ErrNowhere)
}

// TestSuggestAny: P13.2, texts need not be names: where a house has an item without a code, a rule of any item applies to it.
func TestSuggestAny(t *testing.T) {
	for _, text := range []string{"", " ", "a b", "\xff", "\x00", strings.Repeat("x", 300)} {
		h := houseOf([]api.Item{{Code: text}}, []api.Zone{{Code: text, Site: text}}, []api.Bin{{Code: text, Zone: text, Kind: api.Shelf}}, nil, nil)
		suggests(t, "no rule", h, text, text, 1, "", api.ErrNowhere)
		suggests(t, "a rule of "+strconv.Quote(text), withRules(h, api.Rule{Item: text, Zone: text}), text, text, 1, text, api.OK)
		suggests(t, "a rule of any item and "+strconv.Quote(text), withRules(h, api.Rule{Zone: text}), text, text, 1, text, api.OK)
		suggests(t, "a rule of another item", withRules(h, api.Rule{Item: text + ".", Zone: text}), text, text, 1, "", api.ErrNowhere)
		suggests(t, "a rule of another zone", withRules(h, api.Rule{Item: text, Zone: text + "."}), text, text, 1, "", api.ErrNowhere)
		suggests(t, "another site", withRules(h, api.Rule{Item: text, Zone: text}), text+".", text, 1, "", api.ErrNowhere)
	}
}

// TestMany: P13.2, of more rules and bins than a house may have each is considered, in their order, wherever it stands.
func TestMany(t *testing.T) {
	for _, n := range []int{31, 32, 33, 63, 64, 65, 150} {
		h := houseOf(itemsOf("nut=1,1"), nil, nil, nil, nil)
		var want []string
		for i := range n {
			// Each place once, in no order, for none of these numbers has a divisor with 37 but 1.
			place := i * 37 % n
			code := strconv.Itoa(1000 + place)
			h.Zones = append(h.Zones, api.Zone{Code: "z" + code, Site: "s"})
			h.Bins = append(h.Bins, api.Bin{Code: "b" + code, Zone: "z" + code, Kind: api.Shelf, Aisle: n - place, Volume: 1, Weight: 1})
			h.Rules = append(h.Rules, api.Rule{Zone: "z" + code, Rank: place})
			want = append(want, "b"+strconv.Itoa(1000+i))
		}
		order(t, strconv.Itoa(n)+" rules", h, "s", strings.Join(want, " "))
		// In one zone, the shelves go by their aisles.
		slices.Reverse(want)
		for i := range h.Bins {
			h.Bins[i].Zone = "z1000"
		}
		order(t, strconv.Itoa(n)+" shelves", h, "s", strings.Join(want, " "))
	}
}
