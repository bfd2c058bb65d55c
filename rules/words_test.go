package rules

import (
	"cmp"
	"math"
	"math/rand"
	"slices"
	"strconv"
	"strings"
	"testing"

	"stevedore/api"
	"stevedore/layout"
	"stevedore/room"
)

// ruleGreater tells whether the key of a rule is greater than another's.
func ruleGreater(a, b api.Rule) bool {
	if a.Item != b.Item {
		return a.Item > b.Item
	}
	return a.Zone > b.Zone
}

// addByWords is P13.1: the rules behind it, or its first error.
func addByWords(h api.House, x api.Rule) ([]api.Rule, api.Errno) {
	item := x.Item == "" || slices.ContainsFunc(h.Items, func(y api.Item) bool { return y.Code == x.Item })
	zone := slices.ContainsFunc(h.Zones, func(z api.Zone) bool { return z.Code == x.Zone })
	place := slices.IndexFunc(h.Rules, func(r api.Rule) bool { return r.Item == x.Item && r.Zone == x.Zone })
	l := slices.Clone(h.Rules)
	switch {
	case !item || !zone:
		return nil, api.ErrNone
	case x.Rank < 0 || x.Rank > 999:
		return nil, api.ErrNum
	case place >= 0:
		l[place] = x
		return l, api.OK
	case len(h.Rules) >= 32:
		return nil, api.ErrFull
	}
	place = slices.IndexFunc(l, func(r api.Rule) bool { return ruleGreater(r, x) })
	if place < 0 {
		place = len(l)
	}
	return slices.Insert(l, place, x), api.OK
}

// choice is a rule and one of its shelves, and where they stand in their lists.
type choice struct {
	r         api.Rule
	b         api.Bin
	rule, bin int
}

// without is 1 for a rule without an item, and 0 for one with.
func without(r api.Rule) int {
	if r.Item == "" {
		return 1
	}
	return 0
}

// precedes tells whether a choice is considered ahead of another.
func (a choice) precedes(b choice) bool {
	return cmp.Or(
		cmp.Compare(a.r.Rank, b.r.Rank), cmp.Compare(without(a.r), without(b.r)), cmp.Compare(a.r.Zone, b.r.Zone), cmp.Compare(a.rule, b.rule),
		cmp.Compare(a.b.Aisle, b.b.Aisle), cmp.Compare(a.b.Place, b.b.Place), cmp.Compare(a.b.Code, b.b.Code), cmp.Compare(a.bin, b.bin),
	) < 0
}

// choices is each rule that applies to an item with each of its shelves at a site, in no order.
func choices(h api.House, site, item string) []choice {
	var l []choice
	for i, r := range h.Rules {
		for j, b := range h.Bins {
			applies := r.Item == "" || r.Item == item
			shelf := b.Kind == 1 && !b.Frozen && b.Zone == r.Zone && layout.Site(h, b.Code) == site
			if applies && shelf {
				l = append(l, choice{r, b, i, j})
			}
		}
	}
	return l
}

// suggestByWords is P13.2: of the choices with room, the one that no other one precedes.
func suggestByWords(h api.House, site, item string, qty int) (string, api.Errno) {
	if !slices.ContainsFunc(h.Items, func(x api.Item) bool { return x.Code == item }) {
		return "", api.ErrNone
	}
	var best choice
	found := false
	for _, c := range choices(h, site, item) {
		if room.Fits(h, c.b.Code, item, qty) == api.OK && (!found || c.precedes(best)) {
			best, found = c, true
		}
	}
	if !found {
		return "", api.ErrNowhere
	}
	return best.b.Code, api.OK
}

// follows checks P13.3: a suggested shelf has room, and none that precedes it has; beside ErrNowhere none has.
func follows(t *testing.T, h api.House, site, item string, qty int, bin string, e api.Errno) {
	t.Helper()
	l := choices(h, site, item)
	first := slices.IndexFunc(l, func(c choice) bool { return c.b.Code == bin })
	if e == api.OK && (first < 0 || room.Fits(h, bin, item, qty) != api.OK) {
		t.Errorf("%q was suggested: it is no shelf of a rule, or %d do not fit into it", bin, qty)
		return
	}
	for _, c := range l {
		ahead := e != api.OK || !slices.ContainsFunc(l, func(d choice) bool { return d.b.Code == bin && !c.precedes(d) })
		if ahead && e != api.ErrNone && room.Fits(h, c.b.Code, item, qty) == api.OK {
			t.Errorf("%q was suggested with %d, but %q precedes it and has room", bin, int(e), c.b.Code)
		}
	}
}

// oneOf is the usual in most cases, and at times one of the others.
func oneOf[T any](r *rand.Rand, usual T, others ...T) T {
	if r.Intn(12) > 0 {
		return usual
	}
	return others[r.Intn(len(others))]
}

// anyOf is a text of a letter and a number below n, or at times one that nothing has.
func anyOf(r *rand.Rand, letter string, n int) string {
	return oneOf(r, letter+strconv.Itoa(r.Intn(n)), "", "gone")
}

// anyRule is a random rule: of a few items and zones, and of few ranks, so that many are equal.
func anyRule(r *rand.Rand) api.Rule {
	x := api.Rule{Item: anyOf(r, "i", 3), Zone: anyOf(r, "z", 5), Rank: oneOf(r, r.Intn(3), -1, 0, 999, 1000, math.MinInt, math.MaxInt)}
	if r.Intn(2) == 0 {
		x.Item = ""
	}
	return x
}

// anyBin is a random bin: most are shelves.
func anyBin(r *rand.Rand, code string) api.Bin {
	return api.Bin{
		Code: code, Zone: anyOf(r, "z", 5), Kind: oneOf(r, api.Shelf, 0, 2, 3, 4, 5),
		Aisle: oneOf(r, r.Intn(3), -1, 999), Place: oneOf(r, r.Intn(3), -1, 999),
		Volume: r.Intn(12), Weight: r.Intn(12), Frozen: r.Intn(9) == 0,
	}
}

// anyHouse is a random house. One that is not wild has sorted lists without a key twice; each may have about as many rules as it can.
func anyHouse(r *rand.Rand, wild bool) api.House {
	h := houseOf(nil, nil, nil, nil, nil)
	for i := range 3 {
		h.Items = append(h.Items, api.Item{Code: "i" + strconv.Itoa(i), Volume: r.Intn(3), Weight: r.Intn(3)})
	}
	for i := range 5 {
		h.Zones = append(h.Zones, api.Zone{Code: "z" + strconv.Itoa(i), Site: "s" + strconv.Itoa(r.Intn(2))})
	}
	for i := range r.Intn(14) {
		h.Bins = append(h.Bins, anyBin(r, "b"+strconv.Itoa(10+i)))
		h.Quants = append(h.Quants, quantsOf("b"+strconv.Itoa(10+i)+"/i"+strconv.Itoa(r.Intn(3))+"="+strconv.Itoa(1+r.Intn(5)))...)
	}
	for range r.Intn(12) {
		h.Rules = append(h.Rules, anyRule(r))
	}
	if r.Intn(3) == 0 {
		h.Rules = append(h.Rules, manyRules(31-len(h.Rules)+r.Intn(3))...)
	}
	if wild {
		spoil(r, &h)
		return h
	}
	slices.SortStableFunc(h.Rules, func(a, b api.Rule) int {
		return cmp.Or(strings.Compare(a.Item, b.Item), strings.Compare(a.Zone, b.Zone))
	})
	h.Rules = slices.CompactFunc(h.Rules, func(a, b api.Rule) bool { return a.Item == b.Item && a.Zone == b.Zone })
	return h
}

// spoil makes a house one that no commands make: codes that are there twice, zones that are gone, numbers that may not be, and lists in no order.
func spoil(r *rand.Rand, h *api.House) {
	h.Items = append(h.Items, api.Item{Code: anyOf(r, "i", 3), Volume: -1, Weight: 1 << 62})
	h.Zones = append(h.Zones[r.Intn(3):], api.Zone{Code: anyOf(r, "z", 5), Site: anyOf(r, "s", 2)})
	for range r.Intn(8) {
		h.Bins = append(h.Bins, anyBin(r, "b"+strconv.Itoa(10+r.Intn(9))))
	}
	h.Quants = append(h.Quants, quantsOf("b10/i0=-3 b11/gone=7 b12/i1="+strconv.Itoa(math.MaxInt))...)
	r.Shuffle(len(h.Items), func(i, j int) { h.Items[i], h.Items[j] = h.Items[j], h.Items[i] })
	r.Shuffle(len(h.Zones), func(i, j int) { h.Zones[i], h.Zones[j] = h.Zones[j], h.Zones[i] })
	r.Shuffle(len(h.Bins), func(i, j int) { h.Bins[i], h.Bins[j] = h.Bins[j], h.Bins[i] })
	r.Shuffle(len(h.Rules), func(i, j int) { h.Rules[i], h.Rules[j] = h.Rules[j], h.Rules[i] })
}

// TestByTheWords: P13.1 to P13.3, thousands of random houses, rules and quantities held against the words of the document.
func TestByTheWords(t *testing.T) {
	r := rand.New(rand.NewSource(13))
	seen := map[string]int{}
	for i := range 6000 {
		h := anyHouse(r, i%2 == 0)
		for range 8 {
			x := anyRule(r)
			rules, want := addByWords(h, x)
			seen["Add "+strconv.Itoa(int(want))]++
			g, e := Add(h, x)
			outcome(t, "Add", g, e, withRules(h, rules...), want)
			if e == api.OK {
				h = g
			}
			site, item, qty := anyOf(r, "s", 2), anyOf(r, "i", 3), oneOf(r, 1+r.Intn(6), 0, -1, -1000, 1000000001, math.MinInt, math.MaxInt)
			bin, want := suggestByWords(h, site, item, qty)
			seen["Suggest "+strconv.Itoa(int(want))]++
			suggests(t, "a random house", h, site, item, qty, bin, want)
			got, e := Suggest(h, site, item, qty)
			follows(t, h, site, item, qty, got, e)
			if t.Failed() {
				t.Fatalf("%+v in the house %+v", x, h)
			}
		}
	}
	for _, what := range []string{"Add 0", "Add 12", "Add 5", "Add 14", "Suggest 0", "Suggest 12", "Suggest 30"} {
		if seen[what] < 500 {
			t.Errorf("%s came up %d times", what, seen[what])
		}
	}
}

// TestStowedFits: P13.3, what is stowed where it is suggested overfills no bin, until nothing has room any more.
func TestStowedFits(t *testing.T) {
	r := rand.New(rand.NewSource(31))
	for range 300 {
		h := anyHouse(r, false)
		h.Quants = nil
		h.Items = itemsOf("i0=2,1 i1=1,3 i2=4,4")
		for range 200 {
			item, qty := "i"+strconv.Itoa(r.Intn(3)), 1+r.Intn(3)
			bin, e := Suggest(h, "s0", item, qty)
			follows(t, h, "s0", item, qty, bin, e)
			if e == api.OK {
				h.Quants = append(h.Quants, api.Quant{Key: api.Key{Bin: bin, Item: item, Status: api.Free}, Qty: qty})
			}
			if over := room.Over(h); len(over) > 0 {
				t.Fatalf("%d of %s in %q: %q are overfull", qty, item, bin, over)
			}
		}
		for _, item := range []string{"i0", "i1", "i2"} {
			if bin, e := Suggest(h, "s0", item, 12); e != api.ErrNowhere || bin != "" {
				t.Errorf("12 of %s in a full house: %q, %d", item, bin, int(e))
			}
		}
	}
}

// roomy is l with unused capacity behind it, filled with a mark that no call may touch.
func roomy[T any](l []T, mark T) (short, whole []T) {
	whole = append(slices.Clone(l), mark, mark, mark)
	return whole[:len(l)], whole
}

// TestNothingElseChanges: R2, the house that is passed stays as it is, its lists and their unused capacity too; the rules that come are new memory.
func TestNothingElseChanges(t *testing.T) {
	for _, words := range []string{"", "/z/1", "nut/w/1 nut/y/3 pin/z/2", "pin/z/9 /y/8 nut/z/7 /y/6 nut/w/5 nut/none/4 /z/3"} {
		items, allItems := roomy(itemsOf("pin=2,2 nut=1,1"), api.Item{Code: "nut"})
		zones, allZones := roomy(zonesOf("z/s y/s w/t"), api.Zone{Code: "z"})
		bins, allBins := roomy(binsOf("d/z/9/0=9,9 c/z/1/5=9,9 b/z/1/4=5,5 a/y/0/0=9,9! f/w/3/3=9,9 e/w/3/2=9,9"), binsOf("a/z/0/0=99,99")[0])
		quants, allQuants := roomy(quantsOf("c/pin=1 b/nut=2"), quantsOf("d/nut=9")[0])
		rules, allRules := roomy(rulesOf(words), ruleOf("nut/z/0"))
		keptItems, keptZones, keptBins, keptQuants, keptRules := slices.Clone(allItems), slices.Clone(allZones), slices.Clone(allBins), slices.Clone(allQuants), slices.Clone(allRules)
		h := houseOf(items, zones, bins, quants, rules)
		for _, item := range []string{"nut", "pin", "", "gone"} {
			for _, text := range []string{"z", "y", "w", "s", "t", "gone", ""} {
				for _, n := range []int{-1, 0, 1, 3, 9, 999, 1000} {
					g, _ := Add(h, api.Rule{Item: item, Zone: text, Rank: n})
					clear(g.Rules[:cap(g.Rules)])
					Suggest(h, text, item, n)
					if !slices.Equal(allItems, keptItems) || !slices.Equal(allZones, keptZones) || !slices.Equal(allBins, keptBins) || !slices.Equal(allQuants, keptQuants) || !slices.Equal(allRules, keptRules) {
						t.Fatalf("%d of %q at %q with the rules %s changed a list, or what is behind it", n, item, text, words)
					}
					same(t, "the house that was passed", h, houseOf(keptItems[:len(items)], keptZones[:len(zones)], keptBins[:len(bins)], keptQuants[:len(quants)], keptRules[:len(rules)]))
				}
			}
		}
	}
}
