package alloc

import (
	"cmp"
	"math"
	"math/rand"
	"reflect"
	"slices"
	"strconv"
	"testing"

	"stevedore/api"
	"stevedore/inbound"
	"stevedore/index"
	"stevedore/nums"
	"stevedore/stock"
)

// placed is a list with x in the place of the first element of its key, or ahead of the first that is greater.
func placed[T any](l []T, x T, order func(a, b T) int) []T {
	l = slices.Clone(l)
	if i := slices.IndexFunc(l, func(y T) bool { return order(y, x) == 0 }); i >= 0 {
		l[i] = x
		return l
	}
	i := slices.IndexFunc(l, func(y T) bool { return order(y, x) > 0 })
	if i < 0 {
		i = len(l)
	}
	return slices.Insert(l, i, x)
}

// without is a list without the first element of x's key.
func without[T any](l []T, x T, order func(a, b T) int) []T {
	l = slices.Clone(l)
	if i := slices.IndexFunc(l, func(y T) bool { return order(y, x) == 0 }); i >= 0 {
		return slices.Delete(l, i, i+1)
	}
	return l
}

// byCode and byKey are the orders of orders and of claims.
func byCode(a, b api.Order) int { return cmp.Compare(a.Code, b.Code) }

func byKey(a, b api.Claim) int {
	return cmp.Or(cmp.Compare(a.Order, b.Order), cmp.Compare(a.Line, b.Line), cmp.Compare(a.Bin, b.Bin), cmp.Compare(a.Item, b.Item), cmp.Compare(a.Lot, b.Lot), cmp.Compare(a.Status, b.Status), cmp.Compare(a.Task, b.Task))
}

// orderAt is the place of a house's first order of a code, below 0 if there is none.
func orderAt(h api.House, code string) int {
	return slices.IndexFunc(h.Orders, func(x api.Order) bool { return x.Code == code })
}

// orderByWords is P16.1.
func orderByWords(h api.House, x api.Order) (api.House, api.Errno) {
	if e := nums.Name(x.Code); e != api.OK {
		return zero, e
	}
	site := false
	for _, z := range h.Zones {
		site = site || z.Site == x.Site
	}
	if !site {
		return zero, api.ErrNone
	}
	if e := inbound.Lines(h, x.Lines); e != api.OK {
		return zero, e
	}
	switch {
	case orderAt(h, x.Code) >= 0:
		return zero, api.ErrThere
	case len(h.Orders) >= 32:
		return zero, api.ErrFull
	}
	h.Orders = placed(h.Orders, x, byCode)
	return h, api.OK
}

// claimedByWords is P16.2.
func claimedByWords(h api.House, code string, line int) (sum int) {
	for _, c := range h.Claims {
		if c.Order == code && c.Line == line {
			sum += c.Qty
		}
	}
	return sum
}

// claimByWords is P16.2.
func claimByWords(h api.House, c api.Claim) (api.House, api.Errno) {
	i := slices.IndexFunc(h.Claims, func(d api.Claim) bool { return byKey(c, d) == 0 })
	switch {
	case i < 0 && c.Qty != 0 && len(h.Claims) >= 128:
		return zero, api.ErrFull
	case i >= 0:
		c.Qty += h.Claims[i].Qty
	}
	if c.Qty == 0 {
		h.Claims = without(h.Claims, c, byKey)
	} else {
		h.Claims = placed(h.Claims, c, byKey)
	}
	return h, api.OK
}

// lineByWords is P16.3, of one line.
func lineByWords(h api.House, code string, i int) (api.House, api.Errno) {
	x := h.Orders[orderAt(h, code)]
	wanted := x.Lines[i].Asked - x.Lines[i].Done - claimedByWords(h, code, i)
	back := 0
	if wanted > 0 {
		back = wanted
		for _, t := range index.Naive(h, x.Site, x.Lines[i].Item, wanted) {
			var e api.Errno
			if h, e = stock.Hold(h, t.Key, t.Qty); e != api.OK {
				return zero, e
			}
			if h, e = claimByWords(h, api.Claim{Order: code, Line: i, Key: t.Key, Qty: t.Qty}); e != api.OK {
				return zero, e
			}
			back -= t.Qty
		}
	}
	x.Lines[i].Back = back
	h.Orders = placed(h.Orders, x, byCode)
	return h, api.OK
}

// allocateByWords is P16.3.
func allocateByWords(h api.House, code string) (api.House, api.Errno) {
	at := orderAt(h, code)
	if at < 0 {
		return zero, api.ErrNone
	}
	for i, l := range h.Orders[at].Lines {
		if l.Item == "" {
			continue
		}
		var e api.Errno
		if h, e = lineByWords(h, code, i); e != api.OK {
			return zero, e
		}
	}
	return h, api.OK
}

// dropByWords is P16.4.
func dropByWords(h api.House, code string) (api.House, api.Errno) {
	at := orderAt(h, code)
	if at < 0 {
		return zero, api.ErrNone
	}
	x := h.Orders[at]
	for _, l := range x.Lines {
		if l.Item != "" && l.Done != 0 {
			return zero, api.ErrState
		}
	}
	all := h.Claims
	for _, c := range all {
		if c.Order == code && c.Task != 0 {
			return zero, api.ErrState
		}
	}
	for _, c := range all {
		if c.Order == code {
			var e api.Errno
			if h, e = stock.Hold(h, c.Key, -c.Qty); e != api.OK {
				return zero, e
			}
			h.Claims = without(h.Claims, c, byKey)
		}
	}
	h.Orders = without(h.Orders, x, byCode)
	return h, api.OK
}

// oneOf is the usual in most cases, and at times one of the others.
func oneOf[T any](r *rand.Rand, usual T, others ...T) T {
	if r.Intn(16) > 0 {
		return usual
	}
	return others[r.Intn(len(others))]
}

// anyOf is a text of a letter and a number below n, or at times one that nothing has.
func anyOf(r *rand.Rand, letter string, n int) string {
	return oneOf(r, letter+strconv.Itoa(r.Intn(n)), "", "gone", "a b", "ABCDEFGHIJKLM")
}

// anyNumber is the usual one, or at times one about a bound.
func anyNumber(r *rand.Rand, usual int) int {
	return oneOf(r, usual, -1, 0, 1, 1000000000, 1000000001, math.MinInt, math.MaxInt)
}

// anyLines are random lines, some of which are not in use. Wild ones may be wrong.
func anyLines(r *rand.Rand, wild bool) (l [api.MaxLines]api.Line) {
	others := r.Perm(4)
	for i := range l {
		if len(others) == 0 || r.Intn(3) == 0 {
			continue
		}
		l[i] = api.Line{Item: "i" + strconv.Itoa(others[0]), Asked: 1 + r.Intn(30)}
		others = others[1:]
	}
	if wild {
		l[r.Intn(len(l))] = api.Line{
			Item: anyOf(r, "i", 4), Asked: anyNumber(r, r.Intn(30)),
			Done: oneOf(r, 0, -1, 1, 20, math.MinInt), Back: oneOf(r, 0, -1, 1), Packed: oneOf(r, 0, -1, 1), Out: oneOf(r, 0, -1, 1),
		}
	}
	return l
}

// anyOrder is a random order.
func anyOrder(r *rand.Rand) api.Order {
	return api.Order{Code: anyOf(r, "o", 6), Site: anyOf(r, "s", 2), Lines: anyLines(r, r.Intn(6) == 0)}
}

// anyKey is a random key of a quant.
func anyKey(r *rand.Rand) api.Key {
	return api.Key{Bin: anyOf(r, "b", 6), Item: anyOf(r, "i", 4), Lot: anyOf(r, "l", 3), Status: oneOf(r, 1, 2, 3, 0)}
}

// anyQuant is a random quant. A wild one may have numbers that commands do not make.
func anyQuant(r *rand.Rand, wild bool) api.Quant {
	q := api.Quant{Key: anyKey(r), Qty: oneOf(r, 1+r.Intn(12), 1000000000)}
	q.Held = oneOf(r, 0, q.Qty, q.Qty-1, r.Intn(q.Qty+1))
	if wild {
		q.Qty = oneOf(r, q.Qty, 0, -1, 2000000000, math.MinInt, math.MaxInt)
		q.Held = oneOf(r, q.Held, q.Qty+1, q.Qty-1, -1, math.MinInt, math.MaxInt)
	}
	return q
}

// anyClaim is a random claim, of one of the house's quants if it has any and of one of its claims at times.
func anyClaim(r *rand.Rand, h api.House) api.Claim {
	c := api.Claim{Order: anyOf(r, "o", 6), Line: oneOf(r, r.Intn(8), -1, 8), Key: anyKey(r), Qty: anyNumber(r, 1+r.Intn(6)), Task: oneOf(r, 0, 1, 2, -1)}
	if len(h.Quants) > 0 && r.Intn(4) > 0 {
		c.Key = h.Quants[r.Intn(len(h.Quants))].Key
	}
	if len(h.Claims) > 0 && r.Intn(3) == 0 {
		old := h.Claims[r.Intn(len(h.Claims))]
		old.Qty = oneOf(r, -old.Qty+r.Intn(3)-1, c.Qty, 0)
		return old
	}
	return c
}

// anyHouse is a random house as commands make it, without orders and claims.
func anyHouse(r *rand.Rand) api.House {
	h := empty().house()
	h.Items, h.Lots, h.Zones, h.Bins = nil, nil, nil, nil
	for i := range 4 {
		h.Items = append(h.Items, api.Item{Code: "i" + strconv.Itoa(i)})
		for j := range 3 {
			h.Lots = append(h.Lots, api.Lot{Item: "i" + strconv.Itoa(i), Code: "l" + strconv.Itoa(j), Expiry: r.Intn(3)})
		}
	}
	for i := range 3 {
		h.Zones = append(h.Zones, api.Zone{Code: "z" + strconv.Itoa(i), Site: "s" + strconv.Itoa(r.Intn(2))})
	}
	for i := range 6 {
		h.Bins = append(h.Bins, api.Bin{Code: "b" + strconv.Itoa(i), Zone: "z" + strconv.Itoa(r.Intn(3)), Kind: oneOf(r, 1, 2, 3, 4), Frozen: r.Intn(12) == 0})
	}
	for range r.Intn(30) {
		h.Quants = append(h.Quants, anyQuant(r, false))
	}
	slices.SortStableFunc(h.Quants, func(a, b api.Quant) int { return byKey(api.Claim{Key: a.Key}, api.Claim{Key: b.Key}) })
	h.Quants = slices.CompactFunc(h.Quants, func(a, b api.Quant) bool { return a.Key == b.Key })
	return h
}

// mix puts a list in no order.
func mix[T any](r *rand.Rand, l []T) {
	r.Shuffle(len(l), func(i, j int) { l[i], l[j] = l[j], l[i] })
}

// spoil makes a house one that no commands make: keys that are there twice, numbers that may not be, lists in no order, and about as many orders and claims as there may be.
func spoil(r *rand.Rand, h *api.House) {
	h.Items = append(h.Items, api.Item{Code: anyOf(r, "i", 4)})
	h.Zones = append(h.Zones[r.Intn(2):], api.Zone{Code: anyOf(r, "z", 3), Site: anyOf(r, "s", 2)})
	for range r.Intn(8) {
		h.Quants = append(h.Quants, anyQuant(r, true))
		x := anyOrder(r)
		x.Lines = anyLines(r, true)
		h.Orders = append(h.Orders, x)
		h.Claims = append(h.Claims, anyClaim(r, *h))
	}
	if r.Intn(4) == 0 {
		// More than may be held at once is there, and is wanted.
		h.Quants = append(h.Quants, api.Quant{Key: api.Key{Bin: "b" + strconv.Itoa(r.Intn(6)), Item: "i0", Lot: "l0", Status: api.Free}, Qty: 2000000000})
		h.Orders = append(h.Orders, orderOf("huge/s"+strconv.Itoa(r.Intn(2))+" i1=1 i0=2000000000"))
	}
	if r.Intn(3) == 0 {
		h.Orders = append(h.Orders, manyOrders(max(0, 30+r.Intn(4)-len(h.Orders)))...)
	}
	if r.Intn(3) == 0 {
		h.Claims = append(h.Claims, manyClaims(max(0, 126+r.Intn(4)-len(h.Claims)))...)
	}
	mix(r, h.Zones)
	mix(r, h.Quants)
	mix(r, h.Orders)
	mix(r, h.Claims)
}

// step is a call of a random walk, what it answered, and what the words say.
type step struct {
	what, code string
	g, then    api.House
	e, want    api.Errno
}

// anyStep makes a random call.
func anyStep(r *rand.Rand, h api.House) step {
	s := step{code: anyOf(r, "o", 6)}
	if len(h.Orders) > 0 && r.Intn(4) > 0 {
		s.code = h.Orders[r.Intn(len(h.Orders))].Code
	}
	switch r.Intn(8) {
	case 0, 1:
		x := anyOrder(r)
		s.what, s.code = "Order", x.Code
		s.g, s.e = Order(h, x)
		s.then, s.want = orderByWords(h, x)
	case 2:
		c := anyClaim(r, h)
		s.what = "Claim"
		s.g, s.e = Claim(h, c)
		s.then, s.want = claimByWords(h, c)
	case 3, 4, 5:
		s.what = "Allocate"
		s.g, s.e = Allocate(h, s.code)
		s.then, s.want = allocateByWords(h, s.code)
	default:
		s.what = "Drop"
		s.g, s.e = Drop(h, s.code)
		s.then, s.want = dropByWords(h, s.code)
	}
	return s
}

// TestByTheWords: P16.1 to P16.4, thousands of random houses and calls, each behind the other, held against the words of the document.
func TestByTheWords(t *testing.T) {
	r := rand.New(rand.NewSource(16))
	seen := map[string]int{}
	for i := range 1500 {
		h := anyHouse(r)
		if i%2 == 0 {
			spoil(r, &h)
		}
		for range 40 {
			s := anyStep(r, h)
			seen[s.what+" "+strconv.Itoa(int(s.want))]++
			outcome(t, s.what, s.g, s.e, s.then, s.want)
			code, line := anyOf(r, "o", 6), oneOf(r, r.Intn(8), -1, 8)
			if n, want := Claimed(h, code, line), claimedByWords(h, code, line); n != want {
				t.Errorf("Claimed of %s and %d = %d, want %d", code, line, n, want)
			}
			if t.Failed() {
				t.Fatalf("%s of %s in the house %+v", s.what, s.code, h)
			}
			if s.e == api.OK {
				h = s.g
			}
			// Stock that comes and goes makes room, and takes it away.
			if r.Intn(5) == 0 {
				if g, e := stock.Put(h, anyKey(r), 1+r.Intn(9)); e == api.OK {
					h = g
				}
			}
		}
	}
	for _, what := range []string{"Order 0", "Order 3", "Order 4", "Order 5", "Order 10", "Order 11", "Order 12", "Order 14", "Claim 0", "Claim 14", "Allocate 0", "Allocate 10", "Allocate 12", "Allocate 14", "Allocate 28", "Drop 0", "Drop 10", "Drop 12", "Drop 13", "Drop 28"} {
		if seen[what] < 20 {
			t.Errorf("%s came up %d times", what, seen[what])
		}
	}
}

// anyWalk makes some random calls of Order, Allocate and Drop, and puts of stock, in a house as commands make it, and calls check behind each that was done.
func anyWalk(r *rand.Rand, steps int, check func(h api.House, s step)) {
	h := anyHouse(r)
	for range steps {
		if g, e := stock.Put(h, anyKey(r), 1+r.Intn(9)); e == api.OK && r.Intn(3) == 0 {
			h = g
		}
		if s := anyStep(r, h); s.e == api.OK && s.what != "Claim" {
			check(h, s)
			h = s.g
		}
	}
}

// heldFor is how much of a quant is claimed.
func heldFor(h api.House, k api.Key) (sum int) {
	for _, c := range h.Claims {
		if c.Key == k {
			sum += c.Qty
		}
	}
	return sum
}

// sound checks a house into which nothing came but by commands: no more is held than there is, what is held for orders is claimed, and the lists are sorted and within their limits.
func sound(t *testing.T, before, h api.House) {
	t.Helper()
	for _, q := range h.Quants {
		was, found := stock.Find(before, q.Key)
		if q.Held < 0 || q.Held > q.Qty || !found || q.Qty != was.Qty || q.Held-was.Held != heldFor(h, q.Key)-heldFor(before, q.Key) {
			t.Errorf("%d of %d of %+v are held, and were %d of %d", q.Held, q.Qty, q.Key, was.Held, was.Qty)
		}
	}
	rises := func(i int) bool { return i == 0 || byKey(h.Claims[i-1], h.Claims[i]) < 0 }
	for i, c := range h.Claims {
		if c.Qty < 1 || c.Task != 0 || !rises(i) || orderAt(h, c.Order) < 0 {
			t.Errorf("the claims are %+v", h.Claims)
		}
	}
	if len(h.Quants) != len(before.Quants) || len(h.Claims) > 128 || len(h.Orders) > 32 || !slices.IsSortedFunc(h.Orders, byCode) {
		t.Errorf("the house is %+v", h)
	}
}

// backordered checks P16.3 and P16.5 of an order that was allocated in a house without an item in two of its lines.
func backordered(t *testing.T, before api.House, s step) {
	t.Helper()
	x, y := before.Orders[orderAt(before, s.code)], s.g.Orders[orderAt(s.g, s.code)]
	for i, l := range x.Lines {
		wanted := max(0, l.Asked-l.Done-Claimed(before, s.code, i))
		if l.Item == "" {
			wanted = 0
		}
		taken := Claimed(s.g, s.code, i) - Claimed(before, s.code, i)
		open := index.Open(before, x.Site, l.Item)
		if back := y.Lines[i].Back; back != wanted-taken || back != max(0, wanted-open) {
			t.Errorf("of %s %d are wanted, %d open and %d taken, and %d are backordered", l.Item, wanted, open, taken, back)
		}
		l.Back = y.Lines[i].Back
		x.Lines[i] = l
	}
	if x != y {
		t.Errorf("the order is %+v, want %+v", y, x)
	}
}

// restored checks P16.5 of an order that had no claims: dropped behind Allocate, it leaves what is held as it was.
func restored(t *testing.T, before api.House, s step) {
	t.Helper()
	g, e := Drop(s.g, s.code)
	then, _ := Drop(before, s.code)
	outcome(t, "Drop behind Allocate", g, e, then, api.OK)
	if !slices.Equal(g.Quants, before.Quants) || !slices.Equal(g.Claims, before.Claims) {
		t.Errorf("behind Drop the quants are %+v, want %+v", g.Quants, before.Quants)
	}
}

// TestConsequences: P16.5, T3 and T4, in walks of commands what is backordered is just what is wanted and not open, no more is held than there is, and what is dropped leaves nothing.
func TestConsequences(t *testing.T) {
	r := rand.New(rand.NewSource(61))
	seen := map[string]int{}
	for range 600 {
		anyWalk(r, 60, func(h api.House, s step) {
			sound(t, h, s.g)
			if s.what == "Allocate" {
				backordered(t, h, s)
			}
			if had := slices.ContainsFunc(h.Claims, func(c api.Claim) bool { return c.Order == s.code }); s.what == "Allocate" && !had {
				restored(t, h, s)
				seen["restored"]++
			}
			if s.what == "Drop" && !reflect.DeepEqual(emptyLists(h).Quants, emptyLists(s.g).Quants) {
				seen["freed"]++
			}
			if t.Failed() {
				t.Fatalf("%s of %s in the house %+v", s.what, s.code, h)
			}
			seen[s.what]++
		})
	}
	for _, what := range []string{"Order", "Allocate", "Drop", "restored", "freed"} {
		if seen[what] < 500 {
			t.Errorf("%s came up %d times", what, seen[what])
		}
	}
}

// TestCrowd: P16.3, P16.5 and T6, many orders of many small quants: claims fill the house and never more.
func TestCrowd(t *testing.T) {
	w := empty()
	w.orders = "o/s nut=100; p/s nut=27 pin=1; q/s nut=1; r/s pin=1"
	h := w.house()
	for i := range 256 {
		h.Quants = append(h.Quants, api.Quant{Key: api.Key{Bin: "a", Item: "nut", Lot: "l" + strconv.Itoa(100+i), Status: api.Free}, Qty: 1})
	}
	for _, c := range []struct {
		code string
		want api.Errno
		then int
	}{{"o", api.OK, 100}, {"p", api.OK, 127}, {"q", api.OK, 128}, {"o", api.OK, 128}, {"r", api.OK, 128}} {
		g, e := Allocate(h, c.code)
		errno(t, "Allocate of "+c.code, e, c.want)
		if len(g.Claims) != c.then {
			t.Fatalf("behind %s there are %d claims, want %d", c.code, len(g.Claims), c.then)
		}
		sound(t, h, g)
		h = g
	}
	h.Orders[3].Lines[0] = api.Line{Item: "nut", Asked: 1}
	g, e := Allocate(h, "r")
	outcome(t, "Allocate of one claim too many", g, e, zero, api.ErrFull)
	h, e = Drop(h, "q")
	errno(t, "Drop", e, api.OK)
	h, e = Allocate(h, "r")
	errno(t, "Allocate where there is room again", e, api.OK)
	if len(h.Claims) != 128 || Claimed(h, "r", 0) != 1 {
		t.Errorf("there are %d claims", len(h.Claims))
	}
}
