package stock

import (
	"math"
	"math/rand"
	"slices"
	"strconv"
	"strings"
	"testing"

	"stevedore/api"
	"stevedore/room"
)

// plus is a sum that wraps around.
func plus(a, b int) int { return int(uint64(a) + uint64(b)) }

// minus is a difference that wraps around.
func minus(a, b int) int { return int(uint64(a) - uint64(b)) }

// greater tells whether a key is greater than another.
func greater(a, b api.Key) bool {
	if a.Bin != b.Bin {
		return a.Bin > b.Bin
	}
	if a.Item != b.Item {
		return a.Item > b.Item
	}
	if a.Lot != b.Lot {
		return a.Lot > b.Lot
	}
	return a.Status > b.Status
}

// findByWords is P12.1: the place of the first quant of the key, and what it is.
func findByWords(h api.House, k api.Key) (int, api.Quant) {
	for i, q := range h.Quants {
		if q.Key == k {
			return i, q
		}
	}
	return -1, api.Quant{}
}

// totalByWords is P12.1.
func totalByWords(h api.House, item, lot string) int {
	sum := 0
	for _, q := range h.Quants {
		if q.Item == item && q.Lot == lot {
			sum = plus(sum, q.Qty)
		}
	}
	return sum
}

// leftByWords is a house with a quant as a call leaves it: in its place, gone with the Qty 0, or new ahead of the first that is greater.
func leftByWords(h api.House, q api.Quant) api.House {
	l := slices.Clone(h.Quants)
	i, _ := findByWords(h, q.Key)
	if i >= 0 && q.Qty == 0 {
		return restocked(h, slices.Delete(l, i, i+1)...)
	}
	if i >= 0 {
		l[i] = q
		return restocked(h, l...)
	}
	i = slices.IndexFunc(l, func(x api.Quant) bool { return greater(x.Key, q.Key) })
	if i < 0 {
		i = len(l)
	}
	return restocked(h, slices.Insert(l, i, q)...)
}

// putByWords is P12.2.
func putByWords(h api.House, k api.Key, qty int) (api.House, api.Errno) {
	i, q := findByWords(h, k)
	switch {
	case qty < 1 || qty > 1000000000:
		return zero, api.ErrQty
	case i >= 0 && q.Qty > 1000000000-qty:
		return zero, api.ErrQty
	case i < 0 && len(h.Quants) >= 256:
		return zero, api.ErrQuants
	}
	return leftByWords(h, api.Quant{Key: k, Qty: plus(q.Qty, qty), Held: q.Held}), api.OK
}

// takeByWords is P12.3.
func takeByWords(h api.House, k api.Key, qty int) (api.House, api.Errno) {
	i, q := findByWords(h, k)
	switch {
	case qty < 1 || qty > 1000000000:
		return zero, api.ErrQty
	case i < 0:
		return zero, api.ErrNone
	case q.Qty < qty:
		return zero, api.ErrShort
	case minus(q.Qty, q.Held) < qty:
		return zero, api.ErrHeld
	}
	return leftByWords(h, api.Quant{Key: k, Qty: minus(q.Qty, qty), Held: q.Held}), api.OK
}

// holdByWords is P12.4.
func holdByWords(h api.House, k api.Key, qty int) (api.House, api.Errno) {
	i, q := findByWords(h, k)
	switch {
	case i < 0:
		return zero, api.ErrNone
	case qty < -1000000000 || qty > 1000000000:
		return zero, api.ErrQty
	case qty > minus(q.Qty, q.Held) || plus(q.Held, qty) < 0:
		return zero, api.ErrHeld
	}
	return leftByWords(h, api.Quant{Key: k, Qty: q.Qty, Held: plus(q.Held, qty)}), api.OK
}

// binByWords is the first bin of a code, and whether there is one.
func binByWords(h api.House, code string) (api.Bin, bool) {
	for _, b := range h.Bins {
		if b.Code == code {
			return b, true
		}
	}
	return api.Bin{}, false
}

// moveByWords is P12.5.
func moveByWords(h api.House, k api.Key, qty int, to string) (api.House, api.Errno) {
	from, fromThere := binByWords(h, k.Bin)
	into, intoThere := binByWords(h, to)
	switch {
	case to == k.Bin:
		return zero, api.ErrArg
	case !intoThere:
		return zero, api.ErrNone
	case fromThere && from.Frozen || into.Frozen:
		return zero, api.ErrFrozen
	}
	taken, e := takeByWords(h, k, qty)
	if e != api.OK {
		return zero, e
	}
	if e := room.Fits(taken, to, k.Item, qty); e != api.OK {
		return zero, e
	}
	return putByWords(taken, api.Key{Bin: to, Item: k.Item, Lot: k.Lot, Status: k.Status}, qty)
}

// statusByWords is P12.6.
func statusByWords(h api.House, k api.Key, qty, status int) (api.House, api.Errno) {
	b, there := binByWords(h, k.Bin)
	switch {
	case status < 1 || status > 3 || status == k.Status:
		return zero, api.ErrStatus
	case there && b.Frozen:
		return zero, api.ErrFrozen
	}
	taken, e := takeByWords(h, k, qty)
	if e != api.OK {
		return zero, e
	}
	return putByWords(taken, api.Key{Bin: k.Bin, Item: k.Item, Lot: k.Lot, Status: status}, qty)
}

// edges are numbers about each bound.
func edges() []int {
	return []int{math.MinInt, math.MinInt + 1, -1000000001, -1000000000, -999999999, -3, -2, -1, 0, 1, 2, 3, 999999997, 999999998, 999999999, 1000000000, 1000000001, math.MaxInt - 1, math.MaxInt}
}

// TestEdges: P12.2 to P12.6, each of the edges as the quantity of a quant, as what is held of it or stands where it goes, and as what a call is given.
func TestEdges(t *testing.T) {
	k := keyOf("b/nut//1")
	h := laid("nut=0,0", "b=0,0 c=0,0", "")
	for _, qty := range edges() {
		for _, more := range edges() {
			held := restocked(h, api.Quant{Key: k, Qty: qty, Held: more})
			behind := restocked(h, api.Quant{Key: k, Qty: qty}, api.Quant{Key: keyOf("c/nut//1"), Qty: more})
			restated := restocked(h, api.Quant{Key: k, Qty: qty}, api.Quant{Key: keyOf("b/nut//2"), Qty: more})
			for _, n := range edges() {
				what := " of " + strconv.Itoa(n) + ": " + strconv.Itoa(qty) + " and " + strconv.Itoa(more)
				then, want := putByWords(held, k, n)
				g, e := Put(held, k, n)
				outcome(t, "Put"+what, g, e, then, want)
				then, want = takeByWords(held, k, n)
				g, e = Take(held, k, n)
				outcome(t, "Take"+what, g, e, then, want)
				then, want = holdByWords(held, k, n)
				g, e = Hold(held, k, n)
				outcome(t, "Hold"+what, g, e, then, want)
				then, want = moveByWords(behind, k, n, "c")
				g, e = Move(behind, k, n, "c")
				outcome(t, "Move"+what, g, e, then, want)
				then, want = statusByWords(restated, k, n, api.Hold)
				g, e = Status(restated, k, n, api.Hold)
				outcome(t, "Status"+what, g, e, then, want)
			}
			if t.Failed() {
				return
			}
		}
	}
}

// oneOf is the usual in most cases, and at times one of the others.
func oneOf[T any](r *rand.Rand, usual T, others ...T) T {
	if r.Intn(12) > 0 {
		return usual
	}
	return others[r.Intn(len(others))]
}

// anyKey is a key of a few bins, items, lots and statuses, or at times of one that nothing has.
func anyKey(r *rand.Rand) api.Key {
	return api.Key{
		Bin: oneOf(r, "b"+strconv.Itoa(r.Intn(3)), "", "gone"), Item: oneOf(r, "i"+strconv.Itoa(r.Intn(2)), "", "gone"),
		Lot: oneOf(r, "", "7"), Status: oneOf(r, 1+r.Intn(3), 0, 4),
	}
}

// anyQuants are random quants: in order or not, some keys twice, and at times about as many as there may be. Wild ones have numbers that commands do not make.
func anyQuants(r *rand.Rand, wild bool) []api.Quant {
	var l []api.Quant
	for range r.Intn(12) {
		q := api.Quant{Key: anyKey(r), Qty: oneOf(r, 1+r.Intn(9), 999999999, 1000000000)}
		q.Held = oneOf(r, 0, r.Intn(q.Qty), q.Qty)
		if r.Intn(2) == 0 {
			q.Held = r.Intn(q.Qty + 1)
		}
		if wild && r.Intn(3) == 0 {
			q.Qty = oneOf(r, r.Intn(12)-6, math.MinInt, math.MaxInt)
			q.Held = oneOf(r, r.Intn(12)-6, math.MinInt, math.MaxInt)
		}
		l = append(l, q)
	}
	if r.Intn(3) == 0 {
		l = append(l, crowd(255-len(l)+r.Intn(3))...)
	}
	return l
}

// anyHouse is a random house. One that is not wild has sorted lists, and what commands make.
func anyHouse(r *rand.Rand, wild bool) api.House {
	h := houseOf(nil, nil, anyQuants(r, wild))
	for i := range 2 {
		h.Items = append(h.Items, api.Item{Code: "i" + strconv.Itoa(i), Volume: r.Intn(4), Weight: r.Intn(4)})
	}
	for i := range 3 {
		h.Bins = append(h.Bins, api.Bin{Code: "b" + strconv.Itoa(i), Kind: api.Shelf, Volume: oneOf(r, r.Intn(80), 1000000000000), Weight: oneOf(r, r.Intn(80), 1000000000000), Frozen: r.Intn(8) == 0})
	}
	if wild {
		h.Items = append(h.Items, api.Item{Code: "i" + strconv.Itoa(r.Intn(3)), Volume: -1, Weight: 1 << 62})
		h.Bins = append(h.Bins, api.Bin{Code: "b" + strconv.Itoa(r.Intn(3)), Volume: 99, Weight: 99, Frozen: true})
		r.Shuffle(len(h.Items), func(i, j int) { h.Items[i], h.Items[j] = h.Items[j], h.Items[i] })
		r.Shuffle(len(h.Bins), func(i, j int) { h.Bins[i], h.Bins[j] = h.Bins[j], h.Bins[i] })
		return h
	}
	slices.SortStableFunc(h.Quants, func(a, b api.Quant) int { return byKey().Order(a, b) })
	h.Quants = slices.CompactFunc(h.Quants, func(a, b api.Quant) bool { return a.Key == b.Key })
	return h
}

// aim is a key of a house's quant in most cases, and a number about its quantity, what is free of it, or what is held.
func aim(r *rand.Rand, h api.House) (api.Key, int) {
	k := anyKey(r)
	if len(h.Quants) > 0 && r.Intn(4) > 0 {
		k = h.Quants[r.Intn(min(len(h.Quants), 12))].Key
	}
	_, q := findByWords(h, k)
	about := []int{q.Qty, minus(q.Qty, q.Held), minus(0, q.Held), minus(1000000000, q.Qty), 1 + r.Intn(5)}
	return k, oneOf(r, plus(about[r.Intn(len(about))], r.Intn(3)-1), 0, 1000000000, 1000000001, -1000000000, -1000000001)
}

// step is a call of a random walk, what it answered, and what the words say.
type step struct {
	what     string
	g, then  api.House
	e, want  api.Errno
	conserve bool // it may change no total, and overfill no bin
}

// anyStep makes a random call.
func anyStep(r *rand.Rand, h api.House) step {
	k, n := aim(r, h)
	to, status := anyKey(r).Bin, oneOf(r, 1+r.Intn(3), 0, 4, k.Status)
	s := step{}
	switch r.Intn(5) {
	case 0:
		s.what = "Put"
		s.g, s.e = Put(h, k, n)
		s.then, s.want = putByWords(h, k, n)
	case 1:
		s.what = "Take"
		s.g, s.e = Take(h, k, n)
		s.then, s.want = takeByWords(h, k, n)
	case 2:
		s.what = "Hold"
		s.g, s.e = Hold(h, k, n)
		s.then, s.want = holdByWords(h, k, n)
	case 3:
		s.what, s.conserve = "Move", true
		s.g, s.e = Move(h, k, n, to)
		s.then, s.want = moveByWords(h, k, n, to)
	default:
		s.what, s.conserve = "Status", true
		s.g, s.e = Status(h, k, n, status)
		s.then, s.want = statusByWords(h, k, n, status)
	}
	return s
}

// conserved checks P12.7: no total is another one, and no bin is overfull that was not, unless the house is wild.
func conserved(t *testing.T, what string, h, g api.House, wild bool) {
	t.Helper()
	for _, q := range slices.Concat(h.Quants, g.Quants) {
		if q.Bin != "crowd" {
			total(t, what, g, q.Item, q.Lot, totalByWords(h, q.Item, q.Lot))
		}
	}
	before := room.Over(h)
	for _, b := range room.Over(g) {
		if !wild && !slices.Contains(before, b) {
			t.Errorf("%s: %q is overfull", what, b)
		}
	}
}

// whole checks P12.7: there is something of each quant, and no more is held of it than there is.
func whole(t *testing.T, what string, h api.House) {
	t.Helper()
	for _, q := range h.Quants {
		if q.Qty < 1 || q.Held < 0 || q.Held > q.Qty {
			t.Errorf("%s: %+v", what, q)
		}
	}
}

// TestByTheWords: P12.1 to P12.7, thousands of random houses and calls, each behind the other, held against the words of the document.
func TestByTheWords(t *testing.T) {
	r := rand.New(rand.NewSource(12))
	seen := map[string]int{}
	for i := range 9000 {
		wild := i%3 == 0
		h := anyHouse(r, wild)
		for range 12 {
			k := anyKey(r)
			place, q := findByWords(h, k)
			if got, found := Find(h, k); got != q || found != (place >= 0) {
				t.Errorf("Find of %+v = %+v, %v, want %+v", k, got, found, q)
			}
			total(t, "a random house", h, k.Item, k.Lot, totalByWords(h, k.Item, k.Lot))

			s := anyStep(r, h)
			seen[s.what+" "+strconv.Itoa(int(s.want))]++
			outcome(t, s.what, s.g, s.e, s.then, s.want)
			if s.e == api.OK && s.conserve {
				conserved(t, s.what, h, s.g, wild)
			}
			if s.e == api.OK && !wild {
				whole(t, s.what, s.g)
			}
			if t.Failed() {
				t.Fatalf("the house was %+v", h)
			}
			if s.e == api.OK {
				h = s.g
			}
		}
	}
	for _, what := range []string{"Put 0", "Put 10", "Put 16", "Take 0", "Take 10", "Take 12", "Take 27", "Take 28", "Hold 0", "Hold 10", "Hold 12", "Hold 28",
		"Move 0", "Move 1", "Move 10", "Move 12", "Move 16", "Move 25", "Move 26", "Move 27", "Move 28", "Status 0", "Status 10", "Status 12", "Status 16", "Status 25", "Status 27", "Status 28", "Status 31"} {
		if seen[what] < 50 {
			t.Errorf("%s came up %d times", what, seen[what])
		}
	}
}

// TestAnyTexts: P12.1 to P12.6, a key's texts need not be names.
func TestAnyTexts(t *testing.T) {
	for _, text := range []string{"", " ", "a b", "\xff", "\x00", strings.Repeat("x", 300)} {
		k := api.Key{Bin: text, Item: text, Lot: text, Status: api.Free}
		to := api.Key{Bin: text + "2", Item: text, Lot: text, Status: api.Broken}
		h := houseOf([]api.Item{{Code: text, Volume: 1}}, []api.Bin{{Code: text}, {Code: to.Bin, Volume: 2}}, nil)
		steps := []struct {
			name string
			call func(h api.House) (api.House, api.Errno)
			then []api.Quant
		}{
			{"Put", func(h api.House) (api.House, api.Errno) { return Put(h, k, 5) }, []api.Quant{{Key: k, Qty: 5}}},
			{"Hold", func(h api.House) (api.House, api.Errno) { return Hold(h, k, 2) }, []api.Quant{{Key: k, Qty: 5, Held: 2}}},
			{"Status", func(h api.House) (api.House, api.Errno) { return Status(h, k, 2, api.Broken) }, []api.Quant{{Key: k, Qty: 3, Held: 2}, {Key: api.Key{Bin: text, Item: text, Lot: text, Status: api.Broken}, Qty: 2}}},
			{"Move", func(h api.House) (api.House, api.Errno) {
				return Move(h, api.Key{Bin: text, Item: text, Lot: text, Status: api.Broken}, 2, to.Bin)
			}, []api.Quant{{Key: k, Qty: 3, Held: 2}, {Key: to, Qty: 2}}},
			{"Take", func(h api.House) (api.House, api.Errno) { return Take(h, to, 1) }, []api.Quant{{Key: k, Qty: 3, Held: 2}, {Key: to, Qty: 1}}},
		}
		for _, s := range steps {
			g, e := s.call(h)
			outcome(t, s.name+" of "+strconv.Quote(text), g, e, restocked(h, s.then...), api.OK)
			h = g
		}
		total(t, strconv.Quote(text), h, text, text, 4)
	}
}

// roomy is l with unused capacity behind it, filled with a mark that no call may touch.
func roomy[T any](l []T, mark T) (short, whole []T) {
	whole = append(slices.Clone(l), mark, mark, mark)
	return whole[:len(l)], whole
}

// wipe writes over a list and its unused capacity, as the caller whom it belongs to may.
func wipe(l []api.Quant) { clear(l[:cap(l)]) }

// TestNothingElseChanges: R2, the house that is passed stays as it is, its lists and their unused capacity too; the quants that come are new memory.
func TestNothingElseChanges(t *testing.T) {
	for _, words := range []string{"", "b/nut//1=5:2", "a/nut//1=1 b/nut//1=5:2 b/nut//2=4 c/nut//1=9", "c/nut//1=9 b/nut//1=5 a/nut//1=1 b/nut//1=7:7 b/nut//2=-3 c/bolt//3=0"} {
		items, allItems := roomy(itemsOf("bolt=1,1 nut=3,1"), api.Item{Code: "nut"})
		bins, allBins := roomy(binsOf("a=9,9 b=99,99 c=99,99 f=9,9!"), api.Bin{Code: "b"})
		quants, allQuants := roomy(quantsOf(words), quantsOf("b/nut//1=7")[0])
		keptItems, keptBins, keptQuants := slices.Clone(allItems), slices.Clone(allBins), slices.Clone(allQuants)
		h := houseOf(items, bins, quants)
		for _, key := range []string{"a/nut//1", "b/nut//1", "b/nut//2", "b/nut//3", "c/nut//1", "c/bolt//3", "gone/nut//1", "///0"} {
			k := keyOf(key)
			for _, n := range []int{-3, 0, 1, 3, 5, 9, 1000000000, 1000000001} {
				var results []api.House
				for _, call := range []func(api.House, api.Key, int) (api.House, api.Errno){Put, Take, Hold} {
					g, _ := call(h, k, n)
					results = append(results, g)
				}
				for i, to := range []string{"a", "b", "c", "f", "gone", ""} {
					g, _ := Move(h, k, n, to)
					results = append(results, g)
					g, _ = Status(h, k, n, i)
					results = append(results, g)
				}
				for _, g := range results {
					wipe(g.Quants)
				}
				Find(h, k)
				Total(h, k.Item, k.Lot)
				if !slices.Equal(allItems, keptItems) || !slices.Equal(allBins, keptBins) || !slices.Equal(allQuants, keptQuants) {
					t.Fatalf("%d of %s with %s changed a list, or what is behind it", n, key, words)
				}
				same(t, "the house that was passed", h, houseOf(keptItems[:len(items)], keptBins[:len(bins)], keptQuants[:len(quants)]))
			}
		}
	}
}
