package index

import (
	"math"
	"math/big"
	"math/rand"
	"reflect"
	"slices"
	"strconv"
	"testing"

	"stevedore/api"
)

// binByWords is the first bin of a code, and whether there is one.
func binByWords(h api.House, code string) (api.Bin, bool) {
	for _, b := range h.Bins {
		if b.Code == code {
			return b, true
		}
	}
	return api.Bin{}, false
}

// siteByWords is the site of the first zone of a code.
func siteByWords(h api.House, zone string) string {
	for _, z := range h.Zones {
		if z.Code == zone {
			return z.Site
		}
	}
	return ""
}

// dayByWords is the day of an item and lot.
func dayByWords(h api.House, item, lot string) int {
	for _, l := range h.Lots {
		if l.Item == item && l.Code == lot {
			if l.Expiry != 0 {
				return l.Expiry
			}
			break
		}
	}
	return 100001
}

// freeByWords is the free quantity of a quant, which wraps around.
func freeByWords(q api.Quant) int { return int(uint64(q.Qty) - uint64(q.Held)) }

// isByWords tells whether a quant is eligible for a site and an item.
func isByWords(h api.House, q api.Quant, site, item string) bool {
	b, there := binByWords(h, q.Bin)
	return q.Item == item && q.Status == 1 && there && b.Kind == 1 && !b.Frozen && siteByWords(h, b.Zone) == site && freeByWords(q) > 0
}

// aheadByWords tells whether a quant of an item comes ahead of another by its day, lot and bin.
func aheadByWords(h api.House, a, b api.Quant) bool {
	day, other := dayByWords(h, a.Item, a.Lot), dayByWords(h, b.Item, b.Lot)
	switch {
	case day != other:
		return day < other
	case a.Lot != b.Lot:
		return a.Lot < b.Lot
	}
	return a.Bin < b.Bin
}

// naiveByWords is P15.1: the next quant is the first one that no other comes ahead of. It also tells what is open, which may be more than an int.
func naiveByWords(h api.House, site, item string, qty int) ([]api.Take, *big.Int) {
	var left []api.Quant
	open := new(big.Int)
	for _, q := range h.Quants {
		if isByWords(h, q, site, item) {
			left = append(left, q)
			open.Add(open, big.NewInt(int64(freeByWords(q))))
		}
	}
	var out []api.Take
	for qty > 0 && len(left) > 0 {
		next := 0
		for i := range left {
			if aheadByWords(h, left[i], left[next]) {
				next = i
			}
		}
		n := freeByWords(left[next])
		if n > qty {
			n = qty
		}
		out = append(out, api.Take{Key: left[next].Key, Qty: n})
		left = slices.Delete(left, next, next+1)
		qty -= n
	}
	return out, open
}

// oneOf is the usual in most cases, and at times one of the others.
func oneOf[T any](r *rand.Rand, usual T, others ...T) T {
	if r.Intn(12) > 0 {
		return usual
	}
	return others[r.Intn(len(others))]
}

// anyOf is a text of a letter and a number below n, or at times one that nothing has.
func anyOf(r *rand.Rand, letter string, n int) string {
	return oneOf(r, letter+strconv.Itoa(r.Intn(n)), "", "gone")
}

// anyQuant is a random quant. A wild one may have numbers that commands do not make.
func anyQuant(r *rand.Rand, wild bool) api.Quant {
	q := api.Quant{
		Key: api.Key{Bin: anyOf(r, "b", 6), Item: anyOf(r, "i", 3), Lot: anyOf(r, "l", 4), Status: oneOf(r, 1, 2, 3, 0, 4)},
		Qty: oneOf(r, 1+r.Intn(9), 1000000000),
	}
	q.Held = oneOf(r, 0, q.Qty, q.Qty-1, r.Intn(q.Qty+1))
	if wild {
		q.Qty = oneOf(r, q.Qty, 0, -1, math.MinInt, math.MaxInt)
		q.Held = oneOf(r, q.Held, q.Qty, q.Qty+1, q.Qty-1, -1, math.MinInt, math.MaxInt)
	}
	return q
}

// anyBin is a random bin.
func anyBin(r *rand.Rand, code string) api.Bin {
	return api.Bin{Code: code, Zone: oneOf(r, "z"+strconv.Itoa(r.Intn(3)), "", "gone"), Kind: oneOf(r, 1, 2, 3, 4, 0), Frozen: r.Intn(12) == 0}
}

// anyDay is a random day; few of them are alike.
func anyDay(r *rand.Rand, wild bool) int {
	if wild {
		return oneOf(r, r.Intn(4), -1, 100001, 100002, math.MinInt, math.MaxInt)
	}
	return oneOf(r, r.Intn(4), 100000)
}

// anyHouse is a random house. One that is not wild has sorted lists, and what commands make.
func anyHouse(r *rand.Rand, wild bool) api.House {
	h := api.House{}
	for i := range 3 {
		h.Zones = append(h.Zones, api.Zone{Code: "z" + strconv.Itoa(i), Site: "s" + strconv.Itoa(r.Intn(2))})
		for j := range 4 {
			h.Lots = append(h.Lots, api.Lot{Item: "i" + strconv.Itoa(i), Code: "l" + strconv.Itoa(j), Expiry: anyDay(r, wild)})
		}
	}
	for i := range 6 {
		h.Bins = append(h.Bins, anyBin(r, "b"+strconv.Itoa(i)))
	}
	for range r.Intn(40) {
		h.Quants = append(h.Quants, anyQuant(r, wild))
	}
	if wild {
		h.Zones = append(h.Zones, api.Zone{Code: anyOf(r, "z", 3), Site: anyOf(r, "s", 2)})
		h.Bins = append(h.Bins, anyBin(r, anyOf(r, "b", 6)))
		h.Lots = append(h.Lots, api.Lot{Item: anyOf(r, "i", 3), Code: anyOf(r, "l", 4), Expiry: anyDay(r, wild)})
		mix(r, h.Zones)
		mix(r, h.Bins)
		mix(r, h.Lots)
		return h
	}
	sortQuants(&h)
	return h
}

// mix puts a list in no order.
func mix[T any](r *rand.Rand, l []T) {
	r.Shuffle(len(l), func(i, j int) { l[i], l[j] = l[j], l[i] })
}

// sortQuants makes a house's quants a sorted list.
func sortQuants(h *api.House) {
	text := func(q api.Quant) string {
		return q.Bin + "\x00" + q.Item + "\x00" + q.Lot + "\x00" + strconv.Itoa(q.Status)
	}
	slices.SortStableFunc(h.Quants, func(a, b api.Quant) int {
		if text(a) < text(b) {
			return -1
		}
		if text(a) > text(b) {
			return 1
		}
		return 0
	})
	h.Quants = slices.CompactFunc(h.Quants, func(a, b api.Quant) bool { return a.Key == b.Key })
}

// another is a list with an element taken away, put in or replaced at random.
func another[T any](r *rand.Rand, l []T, x T) []T {
	l = slices.Clone(l)
	i := r.Intn(len(l) + 1)
	switch n := r.Intn(4); {
	case n == 0 || i == len(l):
		return slices.Insert(l, i, x)
	case n == 1:
		return slices.Delete(l, i, i+1)
	}
	l[i] = x
	return l
}

// changedAtRandom is a house with a few changes. One that is not wild stays such a one.
func changedAtRandom(r *rand.Rand, h api.House, wild bool) api.House {
	for range r.Intn(4) {
		switch r.Intn(9) {
		case 0:
			h.Bins = slices.Clone(h.Bins)
			if i := r.Intn(len(h.Bins) + 1); i < len(h.Bins) {
				h.Bins[i].Frozen = !h.Bins[i].Frozen
			}
		case 1:
			h.Lots = slices.Clone(h.Lots)
			if i := r.Intn(len(h.Lots) + 1); i < len(h.Lots) {
				h.Lots[i].Expiry = anyDay(r, wild)
			}
		case 2:
			h.Zones = another(r, h.Zones, api.Zone{Code: "z" + strconv.Itoa(r.Intn(3)), Site: "s" + strconv.Itoa(r.Intn(2))})
		case 3:
			h.Bins = another(r, h.Bins, anyBin(r, "b"+strconv.Itoa(r.Intn(6))))
		case 4:
			h.Lots = another(r, h.Lots, api.Lot{Item: "i" + strconv.Itoa(r.Intn(3)), Code: "l" + strconv.Itoa(r.Intn(4)), Expiry: anyDay(r, wild)})
		default:
			h.Quants = another(r, h.Quants, anyQuant(r, wild))
		}
	}
	switch {
	case !wild:
		sortQuants(&h)
	case r.Intn(5) == 0:
		h.Quants = slices.Clone(h.Quants)
		mix(r, h.Quants)
	}
	return h
}

// anyQty is a quantity about what is open.
func anyQty(r *rand.Rand, open *big.Int) int {
	n := 20
	if open.IsInt64() {
		n = int(open.Int64())
	}
	if r.Intn(2) == 0 && n > 0 {
		return 1 + r.Intn(n)
	}
	return oneOf(r, n+r.Intn(3)-1, -1, 0, 1, math.MinInt, math.MaxInt)
}

// asks checks what an index and the house itself answer, held against the words, and counts what came up.
func asks(t *testing.T, r *rand.Rand, h api.House, x *Index, seen map[string]int) {
	t.Helper()
	site, item := anyOf(r, "s", 2), anyOf(r, "i", 3)
	_, open := naiveByWords(h, site, item, 0)
	qty := anyQty(r, open)
	want, _ := naiveByWords(h, site, item, qty)
	took(t, "Naive", Naive(h, site, item, qty), want)
	took(t, "Pick", x.Pick(site, item, qty), want)
	if n := Open(h, site, item); n != int(new(big.Int).And(open, new(big.Int).SetUint64(math.MaxUint64)).Uint64()) {
		t.Errorf("Open of %q at %q = %d, want %d", item, site, n, open)
	}
	switch sum := sumOf(want); {
	case !open.IsInt64():
		seen["more open than there are numbers"]++
	case sum != max(0, min(qty, Open(h, site, item))):
		t.Errorf("%d of %d %q are taken at %q where %d are open", sum, qty, item, site, open)
	case sum == 0:
		seen["nothing"]++
	case sum == qty && sum == int(open.Int64()):
		seen["just what is open"]++
	case sum == qty:
		seen["all that is wanted"]++
	default:
		seen["less than is wanted"]++
	}
	if len(want) > 2 {
		seen["several quants"]++
	}
	for i := 1; i < len(want); i++ {
		if want[i].Key == want[i-1].Key {
			seen["a key twice"]++
		}
	}
}

// TestByTheWords: P15.1 to P15.3, indexes that follow thousands of random houses, changed one from the other or not, held against the words of the document.
func TestByTheWords(t *testing.T) {
	r := rand.New(rand.NewSource(15))
	seen := map[string]int{}
	for i := range 400 {
		wild := i%2 == 0
		h, x := anyHouse(r, wild), New()
		for range 30 {
			x.Follow(h)
			for range 6 {
				asks(t, r, h, x, seen)
			}
			if t.Failed() {
				t.Fatalf("the house was %+v", h)
			}
			// Followed at times only: several changes then come at once.
			for ok := true; ok; ok = r.Intn(4) == 0 {
				h = changedAtRandom(r, h, wild)
			}
			if r.Intn(12) == 0 {
				h = oneOf(r, anyHouse(r, wild), api.House{})
			}
		}
	}
	for _, what := range []string{"nothing", "just what is open", "all that is wanted", "less than is wanted", "several quants", "a key twice", "more open than there are numbers"} {
		if seen[what] < 100 {
			t.Errorf("%s came up %d times", what, seen[what])
		}
	}
}

// TestByOneAnother: P15.3, an index that followed many houses is the one that followed the last alone, whatever they were.
func TestByOneAnother(t *testing.T) {
	r := rand.New(rand.NewSource(51))
	for range 150 {
		x := New()
		for range 20 {
			h := anyHouse(r, r.Intn(2) == 0)
			x.Follow(h)
			y := following(h)
			if !reflect.DeepEqual(x.items, y.items) {
				t.Fatalf("of %+v the index keeps %+v, want %+v", h, x.items, y.items)
			}
		}
	}
}

// TestFullHouse: P15.1 to P15.3 and T6, as many of all as there may be, and more.
func TestFullHouse(t *testing.T) {
	r := rand.New(rand.NewSource(256))
	const all = 1 << 40
	for _, n := range []int{255, 256, 257, 600} {
		h, x := anyHouse(r, true), New()
		for i := range 128 {
			h.Lots = append(h.Lots, api.Lot{Item: "i0", Code: "m" + strconv.Itoa(i), Expiry: anyDay(r, false)})
		}
		for i := range 64 {
			h.Bins = append(h.Bins, anyBin(r, "c"+strconv.Itoa(i)))
		}
		h.Quants = nil
		for range n {
			h.Quants = append(h.Quants, api.Quant{Key: api.Key{Bin: anyOf(r, "c", 64), Item: oneOf(r, "i0", "i1"), Lot: anyOf(r, "m", 128), Status: 1}, Qty: 1 + r.Intn(9)})
		}
		for range 8 {
			x.Follow(h)
			for _, site := range []string{"s0", "s1", ""} {
				want, open := naiveByWords(h, site, "i0", all)
				took(t, "Naive", Naive(h, site, "i0", all), want)
				took(t, "Pick", x.Pick(site, "i0", all), want)
				if open.IsInt64() && sumOf(want) != min(all, int(open.Int64())) {
					t.Errorf("%d are taken where %d are open", sumOf(want), open)
				}
			}
			h = changedAtRandom(r, h, true)
		}
	}
}

// roomy is l with unused capacity behind it, filled with a mark that no call may touch.
func roomy[T any](l []T, mark T) (short, whole []T) {
	whole = append(slices.Clone(l), mark, mark, mark)
	return whole[:len(l)], whole
}

// roomyHouse is the house of words whose lists have unused capacity, a check that neither changed, and a call that writes over both.
func roomyHouse(w words) (h api.House, unchanged func() bool, wipe func()) {
	h = w.house()
	var lots []api.Lot
	var zones []api.Zone
	var bins []api.Bin
	var quants []api.Quant
	h.Lots, lots = roomy(h.Lots, lotOf("nut/a=1"))
	h.Zones, zones = roomy(h.Zones, zoneOf("z/s"))
	h.Bins, bins = roomy(h.Bins, binOf("b1/z"))
	h.Quants, quants = roomy(h.Quants, quantOf("b1/nut/a=9"))
	kept := api.House{Lots: slices.Clone(lots), Zones: slices.Clone(zones), Bins: slices.Clone(bins), Quants: slices.Clone(quants)}
	unchanged = func() bool {
		return slices.Equal(lots, kept.Lots) && slices.Equal(zones, kept.Zones) && slices.Equal(bins, kept.Bins) && slices.Equal(quants, kept.Quants)
	}
	wipe = func() {
		clear(lots)
		clear(zones)
		clear(bins)
		clear(quants)
	}
	return h, unchanged, wipe
}

// TestNothingElseChanges: R2, the house that is passed stays as it is, its lists and their unused capacity too.
func TestNothingElseChanges(t *testing.T) {
	sorted, unsorted := usual(), base()
	unsorted.lots, unsorted.bins, unsorted.quants = "pin/a=5 nut/b=20 nut/a=30 nut/b=1", "b3/z b1/z c1/y b2/z! b1/z#2", "b3/nut/a=5 b1/nut/a=2 b1/pin/a=3 b1/nut/a=1 b2/nut/b=4"
	x := New()
	for _, w := range []words{sorted, base(), unsorted, {}, sorted} {
		h, unchanged, _ := roomyHouse(w)
		for range 2 {
			x.Follow(h)
			for _, site := range []string{"s", "t", ""} {
				for _, item := range []string{"nut", "pin", ""} {
					for _, qty := range []int{-1, 0, 1, 3, 9, 1000} {
						l, m := Naive(h, site, item, qty), x.Pick(site, item, qty)
						Open(h, site, item)
						clear(l[:cap(l)])
						clear(m[:cap(m)])
					}
				}
			}
			if !unchanged() {
				t.Fatalf("a list of %+v, or what is behind it, is changed", w)
			}
			if !reflect.DeepEqual(h, w.house()) && len(w.quants) > 0 {
				t.Fatalf("the house that was passed is %+v, want %+v", h, w.house())
			}
		}
	}
}

// TestNotRetained: P15.2 and R2, what becomes of a house that was followed, and of what was answered, changes no answer.
func TestNotRetained(t *testing.T) {
	h, _, wipe := roomyHouse(usual())
	x := following(h)
	want := listOf("b3/nut/c=1 b2/nut/a=5 b1/nut/b=4", takeOf)
	took(t, "Pick", x.Pick("s", "nut", 1000), want)

	h.Bins[0].Frozen, h.Zones[0].Site, h.Lots[0].Expiry, h.Quants[0].Qty = true, "u", 1, 99
	took(t, "Pick behind a change of the house", x.Pick("s", "nut", 1000), want)
	wipe()
	took(t, "Pick behind a house that is wiped", x.Pick("s", "nut", 1000), want)
	took(t, "Pick at t behind a house that is wiped", x.Pick("t", "nut", 1000), listOf("c1/nut/c=50", takeOf))

	l := x.Pick("s", "nut", 1000)
	for range 3 {
		l = append(l, takeOf("x/x/x=1"))
	}
	clear(l[:cap(l)])
	took(t, "Pick behind an answer that is wiped", x.Pick("s", "nut", 1000), want)

	x.Follow(usual().house())
	took(t, "Pick behind the house as it was", x.Pick("s", "nut", 1000), want)
}

// TestAnswersStay: R2, what was returned belongs to the caller: neither what is followed nor what is picked behind it changes it.
func TestAnswersStay(t *testing.T) {
	r := rand.New(rand.NewSource(2))
	type answer struct{ got, want []api.Take }
	for range 40 {
		x, h := New(), anyHouse(r, true)
		var all []answer
		for range 25 {
			x.Follow(h)
			for _, site := range []string{"s0", "s1"} {
				for _, item := range []string{"i0", "i1", "i2"} {
					for _, got := range [][]api.Take{x.Pick(site, item, 1+r.Intn(60)), Naive(h, site, item, 1+r.Intn(60))} {
						got = got[:cap(got)]
						all = append(all, answer{got, slices.Clone(got)})
					}
				}
			}
			h = changedAtRandom(r, h, true)
		}
		for _, a := range all {
			if !slices.Equal(a.got, a.want) {
				t.Fatalf("an answer is %+v, and was %+v", a.got, a.want)
			}
		}
	}
}

// TestIndexesByThemselves: P15.2 and R3, indexes have nothing in common.
func TestIndexesByThemselves(t *testing.T) {
	one, other := following(usual().house()), following(base().house())
	nuts, others := listOf("b3/nut/c=1 b2/nut/a=5 b1/nut/b=4", takeOf), listOf("b2/nut/b=4 b1/nut/a=2 b3/nut/a=5", takeOf)
	for range 3 {
		took(t, "Pick of one", one.Pick("s", "nut", 1000), nuts)
		took(t, "Pick of the other", other.Pick("s", "nut", 1000), others)
		other.Follow(base().house())
		following(api.House{}).Follow(usual().house())
	}
	one.Follow(api.House{})
	took(t, "Pick of one that is empty now", one.Pick("s", "nut", 1000), nil)
	took(t, "Pick of the other", other.Pick("s", "nut", 1000), others)
	took(t, "Pick of the other's pins", other.Pick("s", "pin", 2), listOf("b1/pin/a=2", takeOf))
}
