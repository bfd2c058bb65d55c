package rules

import (
	"math"
	"reflect"
	"slices"
	"strconv"
	"strings"
	"testing"

	"stevedore/api"
)

// zero is a house without anything: the one beside an error.
var zero api.House

// number is a number that a test wrote out.
func number(s string) int {
	n, err := strconv.Atoi(s)
	if err != nil {
		panic(s)
	}
	return n
}

// itemsOf makes items of words like "nut=3,1": a code, a volume and a weight.
func itemsOf(text string) []api.Item {
	var l []api.Item
	for _, w := range strings.Fields(text) {
		code, both, _ := strings.Cut(w, "=")
		volume, weight, _ := strings.Cut(both, ",")
		l = append(l, api.Item{Code: code, Volume: number(volume), Weight: number(weight), Lots: true, Check: true})
	}
	return l
}

// zonesOf makes zones of words like "z/s": a code and a site.
func zonesOf(text string) []api.Zone {
	var l []api.Zone
	for _, w := range strings.Fields(text) {
		code, site, _ := strings.Cut(w, "/")
		l = append(l, api.Zone{Code: code, Site: site})
	}
	return l
}

// binsOf makes shelves of words like "b/z/2/5=10,10": a code, a zone, an aisle, a place, a volume and a weight. With ! behind it, one is frozen; with # and a number, it is of that kind.
func binsOf(text string) []api.Bin {
	var l []api.Bin
	for _, w := range strings.Fields(text) {
		w, frozen := strings.CutSuffix(w, "!")
		w, kind, other := strings.Cut(w, "#")
		if !other {
			kind = "1"
		}
		place, both, _ := strings.Cut(w, "=")
		volume, weight, _ := strings.Cut(both, ",")
		f := strings.Split(place, "/")
		l = append(l, api.Bin{Code: f[0], Zone: f[1], Kind: number(kind), Aisle: number(f[2]), Place: number(f[3]), Volume: number(volume), Weight: number(weight), Frozen: frozen})
	}
	return l
}

// quantsOf makes quants of words like "b/nut=2": a bin, an item, and how much.
func quantsOf(text string) []api.Quant {
	var l []api.Quant
	for _, w := range strings.Fields(text) {
		name, qty, _ := strings.Cut(w, "=")
		bin, item, _ := strings.Cut(name, "/")
		l = append(l, api.Quant{Key: api.Key{Bin: bin, Item: item, Lot: "7", Status: api.Hold}, Qty: number(qty), Held: 1})
	}
	return l
}

// rulesOf makes rules of words like "nut/z/1": an item (none: any), a zone and a rank.
func rulesOf(text string) []api.Rule {
	var l []api.Rule
	for _, w := range strings.Fields(text) {
		f := strings.Split(w, "/")
		l = append(l, api.Rule{Item: f[0], Zone: f[1], Rank: number(f[2])})
	}
	return l
}

// ruleOf makes a rule of a word.
func ruleOf(word string) api.Rule { return rulesOf(word)[0] }

// houseOf is a house with these lists, and something in each other one.
func houseOf(items []api.Item, zones []api.Zone, bins []api.Bin, quants []api.Quant, rules []api.Rule) api.House {
	k := api.Key{Bin: "b", Item: "nut", Lot: "lot", Status: api.Free}
	return api.House{
		Items:   items,
		Lots:    []api.Lot{{Item: "nut", Code: "lot", Expiry: 9}},
		Zones:   zones,
		Bins:    bins,
		Quants:  quants,
		Rules:   rules,
		Notices: []api.Notice{{Code: "notice", Site: "s"}},
		Orders:  []api.Order{{Code: "order", Site: "s"}},
		Claims:  []api.Claim{{Order: "order", Line: 1, Key: k, Qty: 3, Task: 7}},
		Tasks:   []api.Task{{Number: 7, Kind: api.Pick, Order: "order", From: k, To: "cart", Qty: 3}},
		Parcels: []api.Parcel{{Bin: "b", Order: "order"}},
		Sent:    []api.Sent{{Order: "order", Item: "nut", Lot: "lot", Qty: 2, Back: 1}},
		Counted: []api.Counted{{Key: k, Qty: 4}},
		Totals:  []api.Total{{Item: "nut", Lot: "lot", In: 6, Out: 2}}, LastTask: 7,
	}
}

// ruled is a house with the items nut and pin, the zones y and z of the site s and w of the site t, a shelf in each zone, and rules of words.
func ruled(rules string) api.House {
	return houseOf(itemsOf("nut=1,1 pin=1,1"), zonesOf("w/t y/s z/s"), binsOf("w1/w/0/0=9,9 y1/y/0/0=9,9 z1/z/0/0=9,9"), quantsOf("y1/nut=2"), rulesOf(rules))
}

// withRules is a house with other rules.
func withRules(h api.House, rules ...api.Rule) api.House {
	h.Rules = rules
	return h
}

// errno checks an error.
func errno(t *testing.T, what string, got, want api.Errno) {
	t.Helper()
	if got != want {
		t.Errorf("%s = %d, want %d", what, int(got), int(want))
	}
}

// orNil is a list that is nil if it is empty: which of both it is makes no difference.
func orNil[T any](l []T) []T {
	if len(l) == 0 {
		return nil
	}
	return l
}

// leveled is a house whose empty lists are nil, of those that a test may leave empty.
func leveled(h api.House) api.House {
	h.Items, h.Zones, h.Bins, h.Quants, h.Rules = orNil(h.Items), orNil(h.Zones), orNil(h.Bins), orNil(h.Quants), orNil(h.Rules)
	return h
}

// same checks two houses, all of their lists.
func same(t *testing.T, what string, got, want api.House) {
	t.Helper()
	if !reflect.DeepEqual(leveled(got), leveled(want)) {
		t.Errorf("%s is %+v, want %+v", what, got, want)
	}
}

// outcome checks what Add answered: an error and nothing beside it, or a house.
func outcome(t *testing.T, what string, g api.House, e api.Errno, then api.House, want api.Errno) {
	t.Helper()
	errno(t, what, e, want)
	if want != api.OK {
		then = zero
	}
	same(t, what+": the house", g, then)
}

// adds checks what Add answers of a rule in a house: an error, or the house with these rules.
func adds(t *testing.T, why string, h api.House, x api.Rule, want api.Errno, rules ...api.Rule) {
	t.Helper()
	g, e := Add(h, x)
	outcome(t, why, g, e, withRules(h, rules...), want)
}

// TestAdd: P13.1, each error, and where a rule goes that is added.
func TestAdd(t *testing.T) {
	for _, c := range []struct {
		why, rules, x string
		want          api.Errno
		then          string
	}{
		{"the first rule", "", "nut/z/1", api.OK, "nut/z/1"},
		{"the first rule, of any item", "", "/z/1", api.OK, "/z/1"},
		{"another site's zone", "", "nut/w/1", api.OK, "nut/w/1"},
		{"ahead of another item's", "pin/z/1", "nut/z/1", api.OK, "nut/z/1 pin/z/1"},
		{"behind another item's", "nut/z/1", "pin/z/1", api.OK, "nut/z/1 pin/z/1"},
		{"any item, ahead of all", "nut/y/0 pin/w/0", "/z/999", api.OK, "/z/999 nut/y/0 pin/w/0"},
		{"ahead of another zone", "nut/z/1", "nut/y/1", api.OK, "nut/y/1 nut/z/1"},
		{"between two zones", "nut/w/1 nut/z/1", "nut/y/1", api.OK, "nut/w/1 nut/y/1 nut/z/1"},
		{"the item ahead of the zone", "nut/z/1", "pin/w/1", api.OK, "nut/z/1 pin/w/1"},
		{"the zone ahead of the rank", "nut/y/9 nut/w/3", "nut/z/0", api.OK, "nut/y/9 nut/w/3 nut/z/0"},
		{"between two, whatever the ranks", "/y/9 nut/z/0", "nut/w/5", api.OK, "/y/9 nut/w/5 nut/z/0"},
		{"any item beside one", "nut/z/1", "/z/1", api.OK, "/z/1 nut/z/1"},

		{"in place of another", "nut/z/1", "nut/z/7", api.OK, "nut/z/7"},
		{"in place of itself", "nut/z/1", "nut/z/1", api.OK, "nut/z/1"},
		{"in place of another, of any item", "/z/1 nut/z/2", "/z/7", api.OK, "/z/7 nut/z/2"},
		{"in place of the one of its item", "/z/1 nut/z/2 pin/z/3", "nut/z/7", api.OK, "/z/1 nut/z/7 pin/z/3"},
		{"in place of the one of its zone", "nut/w/1 nut/y/2 nut/z/3", "nut/y/7", api.OK, "nut/w/1 nut/y/7 nut/z/3"},
		{"in place of one with a rank that may not be", "nut/z/-5", "nut/z/7", api.OK, "nut/z/7"},

		{"rules in no order", "pin/z/1 nut/z/2 /z/3", "nut/y/4", api.OK, "nut/y/4 pin/z/1 nut/z/2 /z/3"},
		{"rules in no order, none greater", "nut/z/2 /z/3", "pin/y/4", api.OK, "nut/z/2 /z/3 pin/y/4"},
		{"rules in no order, in place", "pin/z/1 nut/z/2 /z/3", "nut/z/4", api.OK, "pin/z/1 nut/z/4 /z/3"},
		{"rules in no order, the last one in place", "pin/z/1 nut/z/2 /z/3", "/z/4", api.OK, "pin/z/1 nut/z/2 /z/4"},
		{"a key that is there twice", "nut/z/1 nut/z/2", "nut/z/3", api.OK, "nut/z/3 nut/z/2"},
		{"a key that is there twice, in no order", "pin/z/0 nut/z/1 nut/y/5 nut/z/2", "nut/z/3", api.OK, "pin/z/0 nut/z/3 nut/y/5 nut/z/2"},

		{"no such item", "", "bolt/z/1", api.ErrNone, ""},
		{"no such item, beside others", "nut/z/1", "bolt/z/1", api.ErrNone, ""},
		{"an item in another case", "", "NUT/z/1", api.ErrNone, ""},
		{"an item that begins alike", "", "nu/z/1", api.ErrNone, ""},
		{"a zone as an item", "", "z/z/1", api.ErrNone, ""},
		{"an item that a rule alone has", "bolt/z/1", "bolt/z/1", api.ErrNone, ""},
		{"no such zone", "", "nut/x/1", api.ErrNone, ""},
		{"no such zone, any item", "", "/x/1", api.ErrNone, ""},
		{"the empty zone", "", "nut//1", api.ErrNone, ""},
		{"neither item nor zone", "", "//1", api.ErrNone, ""},
		{"a zone in another case", "", "nut/Z/1", api.ErrNone, ""},
		{"a zone that begins alike", "", "nut/zz/1", api.ErrNone, ""},
		{"a site as a zone", "", "nut/s/1", api.ErrNone, ""},
		{"a zone that a rule alone has", "nut/x/1", "nut/x/1", api.ErrNone, ""},
	} {
		h := ruled(c.rules)
		adds(t, c.why, h, ruleOf(c.x), c.want, rulesOf(c.then)...)
		same(t, c.why+": the house that was passed", h, ruled(c.rules))
	}
}

// TestRank: P13.1, the edges of a rank, with and without a rule to replace.
func TestRank(t *testing.T) {
	for _, rank := range []int{math.MinInt, -1000, -2, -1, 0, 1, 500, 998, 999, 1000, 1001, math.MaxInt} {
		want := api.OK
		if rank < 0 || rank > 999 {
			want = api.ErrNum
		}
		for _, item := range []string{"", "nut"} {
			x := api.Rule{Item: item, Zone: "z", Rank: rank}
			what := "a rank of " + strconv.Itoa(rank)
			adds(t, what, ruled(""), x, want, x)
			adds(t, what+", in place", ruled(item+"/z/3"), x, want, x)
		}
	}
}

// manyRules is so many rules, each of another item, that no item of the house has.
func manyRules(n int) []api.Rule {
	var l []api.Rule
	for i := range n {
		l = append(l, api.Rule{Item: "m" + strconv.Itoa(1000+i), Zone: "z", Rank: i})
	}
	return l
}

// TestFull: P13.1, how many rules a house may have; one more is taken only in place of another.
func TestFull(t *testing.T) {
	for _, n := range []int{0, 1, 29, 30, 31, 32, 33, 64, 300} {
		want := api.OK
		if n >= 32 {
			want = api.ErrFull
		}
		for _, x := range rulesOf("nut/z/7 /z/7") {
			what := strconv.Itoa(n) + " rules and " + strconv.Quote(x.Item)
			// The items of manyRules lie ahead of nut, and behind the empty text.
			at := 0
			if x.Item != "" {
				at = n
			}
			others := manyRules(n)
			adds(t, what, withRules(ruled(""), others...), x, want, slices.Insert(slices.Clone(others), at, x)...)
			if n == 0 {
				continue
			}
			for _, place := range []int{0, n / 2, n - 1} {
				there, then := manyRules(n), manyRules(n)
				there[place] = api.Rule{Item: x.Item, Zone: x.Zone, Rank: 3}
				then[place] = x
				adds(t, what+", in place "+strconv.Itoa(place), withRules(ruled(""), there...), x, api.OK, then...)
				// Only one of the same item and zone is replaced.
				there[place].Zone = "y"
				full := api.OK
				if n >= 32 {
					full = api.ErrFull
				}
				_, e := Add(withRules(ruled(""), there...), x)
				errno(t, what+", the item's other zone", e, full)
				there[place] = api.Rule{Item: "pin", Zone: x.Zone, Rank: 7}
				_, e = Add(withRules(ruled(""), there...), x)
				errno(t, what+", the zone's other item", e, full)
			}
		}
	}
}

// TestFirstError: P13.1 and R1, of several errors the first one that the promise names, for each set of them.
func TestFirstError(t *testing.T) {
	for _, wrongRank := range []int{-1, 1000} {
		faults := []struct {
			name  string
			spoil func(h *api.House, x *api.Rule)
			want  api.Errno
		}{
			{"no item", func(h *api.House, x *api.Rule) { x.Item = "bolt" }, api.ErrNone},
			{"no zone", func(h *api.House, x *api.Rule) { x.Zone = "x" }, api.ErrNone},
			{"a wrong rank", func(h *api.House, x *api.Rule) { x.Rank = wrongRank }, api.ErrNum},
			{"too many rules", func(h *api.House, x *api.Rule) { h.Rules = manyRules(32) }, api.ErrFull},
		}
		for set := range 1 << len(faults) {
			h, x, want := ruled("pin/z/1"), ruleOf("nut/y/2"), api.OK
			var names []string
			for i, f := range slices.Backward(faults) {
				if set>>i&1 == 1 {
					f.spoil(&h, &x)
					names = append(names, f.name)
					want = f.want
				}
			}
			adds(t, "Add with these faults: "+strings.Join(names, ", "), h, x, want, rulesOf("nut/y/2 pin/z/1")...)
		}
	}
}

// TestAddAny: P13.1, neither codes of the house nor its lists need be such as commands make.
func TestAddAny(t *testing.T) {
	for _, text := range []string{" ", "a b", "\xff", "\x00", strings.Repeat("x", 300)} {
		x := api.Rule{Item: text, Zone: text, Rank: 5}
		h := houseOf([]api.Item{{Code: text}}, []api.Zone{{Code: text}}, nil, nil, nil)
		adds(t, "a rule of "+strconv.Quote(text), h, x, api.OK, x)
		any := api.Rule{Zone: text}
		adds(t, "a rule of any item and "+strconv.Quote(text), h, any, api.OK, any)
		none := houseOf([]api.Item{{Code: text}}, []api.Zone{{Code: text + "."}, {Site: text}}, nil, nil, nil)
		adds(t, "a zone of "+strconv.Quote(text)+" that is not there", none, x, api.ErrNone)
		none = houseOf([]api.Item{{Code: text + "."}, {}}, []api.Zone{{Code: text}}, nil, nil, nil)
		adds(t, "an item of "+strconv.Quote(text)+" that is not there", none, x, api.ErrNone)
	}
	// The empty text is a zone's code where a house has such a zone, and never asks for an item.
	h := houseOf(nil, zonesOf("/s"), nil, nil, nil)
	adds(t, "a zone without a code", h, api.Rule{Rank: 5}, api.OK, api.Rule{Rank: 5})
	adds(t, "a house without anything", zero, api.Rule{}, api.ErrNone)
	// Items and zones in no order, and more of them than may be.
	h = ruled("")
	for i := range 99 {
		h.Items = append(h.Items, api.Item{Code: "a" + strconv.Itoa(i%50)})
		h.Zones = append(h.Zones, api.Zone{Code: "a" + strconv.Itoa(i%50)})
	}
	adds(t, "the last item and zone", h, ruleOf("a49/a49/1"), api.OK, ruleOf("a49/a49/1"))
	adds(t, "no item of many", h, ruleOf("a50/a49/1"), api.ErrNone)
	adds(t, "no zone of many", h, ruleOf("a49/a50/1"), api.ErrNone)
}

// TestFillUp: P13.1, rules that are added in any order stand sorted, and each is found there, while a house fills up.
func TestFillUp(t *testing.T) {
	h := houseOf(itemsOf("a=1,1 b=1,1 c=1,1 d=1,1 e=1,1 f=1,1 g=1,1"), zonesOf("v/s w/s x/s y/s"), nil, nil, nil)
	var all []api.Rule
	for i := range 32 {
		n := i * 13 % 32
		x := api.Rule{Item: []string{"", "a", "b", "c", "d", "e", "f", "g"}[n/4], Zone: []string{"v", "w", "x", "y"}[n%4], Rank: n * 31}
		all = append(all, x)
		slices.SortFunc(all, func(a, b api.Rule) int { return strings.Compare(a.Item+"/"+a.Zone, b.Item+"/"+b.Zone) })
		g, e := Add(h, x)
		outcome(t, "rule "+strconv.Itoa(i), g, e, withRules(h, all...), api.OK)
		h = g
	}
	for i, x := range all {
		then := slices.Clone(all)
		then[i].Rank = 999 - x.Rank
		adds(t, "another rank", h, then[i], api.OK, then...)
	}
	h.Zones = append(h.Zones, api.Zone{Code: "z"})
	adds(t, "one more", h, ruleOf("a/z/1"), api.ErrFull)
}
