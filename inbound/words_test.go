package inbound

import (
	"cmp"
	"math"
	"math/rand"
	"slices"
	"strconv"
	"testing"

	"stevedore/api"
	"stevedore/items"
	"stevedore/layout"
	"stevedore/lots"
	"stevedore/nums"
	"stevedore/room"
	"stevedore/rules"
	"stevedore/stock"
	"stevedore/units"
)

// placed is a list with x in the place of the first element of its key, or ahead of the first that is greater.
func placed[T any](l []T, x T, order func(a, b T) int) []T {
	l = slices.Clone(l)
	if i := slices.IndexFunc(l, func(y T) bool { return order(y, x) == 0 }); i >= 0 {
		l[i] = x
		return l
	}
	i := slices.IndexFunc(l, func(y T) bool { return order(y, x) > 0 })
	if i < 0 {
		i = len(l)
	}
	return slices.Insert(l, i, x)
}

// byCode and byItem are the orders of notices and of totals.
func byCode(a, b api.Notice) int { return cmp.Compare(a.Code, b.Code) }

func byItem(a, b api.Total) int {
	return cmp.Or(cmp.Compare(a.Item, b.Item), cmp.Compare(a.Lot, b.Lot))
}

// hasItem tells whether a house has an item.
func hasItem(h api.House, code string) bool {
	return slices.ContainsFunc(h.Items, func(x api.Item) bool { return x.Code == code })
}

// noticeAt is the place of a house's first notice of a code, below 0 if there is none.
func noticeAt(h api.House, code string) int {
	return slices.IndexFunc(h.Notices, func(n api.Notice) bool { return n.Code == code })
}

// lineByWords is P14.1, of one line.
func lineByWords(h api.House, l [api.MaxLines]api.Line, i int) api.Errno {
	x := l[i]
	if x.Item == "" {
		if x.Asked != 0 || x.Done != 0 || x.Back != 0 || x.Packed != 0 || x.Out != 0 {
			return api.ErrNum
		}
		return api.OK
	}
	twice := slices.ContainsFunc(l[:i], func(y api.Line) bool { return y.Item == x.Item })
	switch {
	case !hasItem(h, x.Item):
		return api.ErrNone
	case twice:
		return api.ErrThere
	case x.Asked < 1 || x.Asked > 1000000000:
		return api.ErrQty
	case x.Done != 0 || x.Back != 0 || x.Packed != 0 || x.Out != 0:
		return api.ErrNum
	}
	return api.OK
}

// linesByWords is P14.1.
func linesByWords(h api.House, l [api.MaxLines]api.Line) api.Errno {
	used := false
	for i := range l {
		if e := lineByWords(h, l, i); e != api.OK {
			return e
		}
		used = used || l[i].Item != ""
	}
	if !used {
		return api.ErrNone
	}
	return api.OK
}

// announceByWords is P14.2.
func announceByWords(h api.House, x api.Notice) (api.House, api.Errno) {
	if e := nums.Name(x.Code); e != api.OK {
		return zero, e
	}
	site := false
	for _, z := range h.Zones {
		site = site || z.Site == x.Site
	}
	if !site {
		return zero, api.ErrNone
	}
	if e := linesByWords(h, x.Lines); e != api.OK {
		return zero, e
	}
	switch {
	case x.Shut:
		return zero, api.ErrState
	case noticeAt(h, x.Code) >= 0:
		return zero, api.ErrThere
	case len(h.Notices) >= 32:
		return zero, api.ErrFull
	}
	h.Notices = placed(h.Notices, x, byCode)
	return h, api.OK
}

// receiveByWords is P14.3.
func receiveByWords(h api.House, x Came) (api.House, api.Errno) {
	at := noticeAt(h, x.Notice)
	if at < 0 {
		return zero, api.ErrNone
	}
	n := h.Notices[at]
	line := slices.IndexFunc(n.Lines[:], func(l api.Line) bool { return l.Item != "" && l.Item == x.Item })
	item, found := items.Find(h, x.Item)
	switch {
	case n.Shut:
		return zero, api.ErrState
	case line < 0 || !found:
		return zero, api.ErrNone
	}
	qty, e := units.Base(item, x.Unit, x.N)
	if e != api.OK {
		return zero, e
	}
	if e := lots.Fits(h, x.Item, x.Lot, qty); e != api.OK {
		return zero, e
	}
	b, found := layout.Find(h, x.Dock)
	switch {
	case qty > n.Lines[line].Asked-n.Lines[line].Done:
		return zero, api.ErrOver
	case !found:
		return zero, api.ErrNone
	case b.Kind != 2:
		return zero, api.ErrKind
	case layout.Site(h, x.Dock) != n.Site:
		return zero, api.ErrSite
	case b.Frozen:
		return zero, api.ErrFrozen
	}
	if e := room.Fits(h, x.Dock, x.Item, qty); e != api.OK {
		return zero, e
	}
	status := 1
	if item.Check {
		status = 2
	}
	h, e = stock.Put(h, api.Key{Bin: x.Dock, Item: x.Item, Lot: x.Lot, Status: status}, qty)
	if e != api.OK {
		return zero, e
	}
	n.Lines[line].Done += qty
	h.Notices = placed(h.Notices, n, byCode)
	total := api.Total{Item: x.Item, Lot: x.Lot}
	if i := slices.IndexFunc(h.Totals, func(t api.Total) bool { return t.Item == x.Item && t.Lot == x.Lot }); i >= 0 {
		total = h.Totals[i]
	}
	total.In += qty
	h.Totals = placed(h.Totals, total, byItem)
	return h, api.OK
}

// shutByWords is P14.4.
func shutByWords(h api.House, notice string) (api.House, api.Errno) {
	i := noticeAt(h, notice)
	if i < 0 {
		return zero, api.ErrNone
	}
	if h.Notices[i].Shut {
		return zero, api.ErrState
	}
	h.Notices = slices.Clone(h.Notices)
	h.Notices[i].Shut = true
	return h, api.OK
}

// stowByWords is P14.5.
func stowByWords(h api.House, k api.Key, qty int) (api.House, string, api.Errno) {
	b, found := layout.Find(h, k.Bin)
	switch {
	case !found:
		return zero, "", api.ErrNone
	case b.Kind != 2:
		return zero, "", api.ErrKind
	}
	to, e := rules.Suggest(h, layout.Site(h, k.Bin), k.Item, qty)
	if e != api.OK {
		return zero, "", e
	}
	if h, e = stock.Move(h, k, qty, to); e != api.OK {
		return zero, "", e
	}
	return h, to, api.OK
}

// oneOf is the usual in most cases, and at times one of the others.
func oneOf[T any](r *rand.Rand, usual T, others ...T) T {
	if r.Intn(16) > 0 {
		return usual
	}
	return others[r.Intn(len(others))]
}

// anyOf is a text of a letter and a number below n, or at times one that nothing has.
func anyOf(r *rand.Rand, letter string, n int) string {
	return oneOf(r, letter+strconv.Itoa(r.Intn(n)), "", "gone", "a b", "ABCDEFGHIJKLM")
}

// anyNumber is a number about a bound.
func anyNumber(r *rand.Rand, usual int) int {
	return oneOf(r, usual, -1, 0, 1, 1000000000, 1000000001, math.MinInt, math.MaxInt)
}

// anyLines are random lines, some of which are not in use. Wild ones may be wrong.
func anyLines(r *rand.Rand, wild bool) (l [api.MaxLines]api.Line) {
	others := r.Perm(4)
	for i := range l {
		if len(others) == 0 || r.Intn(3) == 0 {
			continue
		}
		l[i] = api.Line{Item: "i" + strconv.Itoa(others[0]), Asked: 1 + r.Intn(60)}
		others = others[1:]
	}
	if wild {
		l[r.Intn(len(l))] = api.Line{
			Item: anyOf(r, "i", 4), Asked: anyNumber(r, r.Intn(60)),
			Done: oneOf(r, 0, -1, 1, 20), Back: oneOf(r, 0, -1, 1), Packed: oneOf(r, 0, -1, 1), Out: oneOf(r, 0, -1, 1),
		}
	}
	return l
}

// anyNotice is a random notice.
func anyNotice(r *rand.Rand) api.Notice {
	return api.Notice{Code: anyOf(r, "n", 9), Site: anyOf(r, "s", 2), Lines: anyLines(r, r.Intn(4) == 0), Shut: r.Intn(9) == 0}
}

// anyItem is a random item.
func anyItem(r *rand.Rand, code string) api.Item {
	kept := r.Intn(3)
	return api.Item{
		Code: code, Volume: r.Intn(3), Weight: r.Intn(3), Units: [api.MaxUnits]api.Unit{{Name: "box", Factor: 3 + r.Intn(5)}},
		Lots: kept > 0, Serial: kept > 1 && r.Intn(2) == 0, Check: r.Intn(2) == 0,
	}
}

// anyHouse is a random house without stock, as commands make it.
func anyHouse(r *rand.Rand) api.House {
	h := usual().house()
	h.Items, h.Lots, h.Zones, h.Bins, h.Rules, h.Notices, h.Totals = nil, nil, nil, nil, nil, nil, nil
	for i := range 4 {
		x := anyItem(r, "i"+strconv.Itoa(i))
		h.Items = append(h.Items, x)
		for j := 0; x.Lots && j < 3; j++ {
			h.Lots = append(h.Lots, api.Lot{Item: x.Code, Code: "l" + strconv.Itoa(j), Expiry: j})
		}
	}
	for i := range 3 {
		h.Zones = append(h.Zones, api.Zone{Code: "z" + strconv.Itoa(i), Site: "s" + strconv.Itoa(r.Intn(2))})
	}
	for i := range 9 {
		h.Bins = append(h.Bins, api.Bin{
			Code: "b" + strconv.Itoa(i), Zone: "z" + strconv.Itoa(r.Intn(3)), Kind: oneOf(r, 2-i%2, 3, 4), Aisle: r.Intn(3), Place: r.Intn(3),
			Volume: 20 + r.Intn(200), Weight: 20 + r.Intn(200), Frozen: r.Intn(12) == 0,
		})
	}
	for i := range r.Intn(5) {
		h.Rules = append(h.Rules, api.Rule{Item: []string{"", "i0", "i1", "i2", "i3"}[i], Zone: "z" + strconv.Itoa(r.Intn(3)), Rank: r.Intn(3)})
	}
	return h
}

// spoil makes a house one that no commands make: keys that are there twice, numbers that may not be, lists in no order, and about as many quants and notices as there may be.
func spoil(r *rand.Rand, h *api.House) {
	h.Items = append(h.Items, anyItem(r, "i"+strconv.Itoa(r.Intn(4))))
	h.Zones = append(h.Zones[r.Intn(2):], api.Zone{Code: anyOf(r, "z", 3), Site: anyOf(r, "s", 2)})
	h.Bins = append(h.Bins, api.Bin{Code: "b" + strconv.Itoa(r.Intn(9)), Zone: anyOf(r, "z", 3), Kind: r.Intn(6), Volume: 99, Weight: 99})
	for range r.Intn(12) {
		n := anyNotice(r)
		n.Lines = anyLines(r, true)
		h.Notices = append(h.Notices, n)
		h.Totals = append(h.Totals, api.Total{Item: anyOf(r, "i", 4), Lot: oneOf(r, "", "l0"), In: anyNumber(r, 5), Out: 2, Back: 3, Fixed: -4})
		h.Quants = append(h.Quants, api.Quant{Key: anyKey(r), Qty: oneOf(r, 1+r.Intn(9), -5, 0, 999999990), Held: oneOf(r, 0, 1, -1)})
	}
	if r.Intn(5) == 0 {
		h.Quants = append(h.Quants, crowd(max(0, 254+r.Intn(4)-len(h.Quants)))...)
	}
	if r.Intn(5) == 0 {
		h.Notices = append(h.Notices, manyNotices(max(0, 30+r.Intn(4)-len(h.Notices)))...)
	}
	r.Shuffle(len(h.Items), func(i, j int) { h.Items[i], h.Items[j] = h.Items[j], h.Items[i] })
	r.Shuffle(len(h.Zones), func(i, j int) { h.Zones[i], h.Zones[j] = h.Zones[j], h.Zones[i] })
	r.Shuffle(len(h.Bins), func(i, j int) { h.Bins[i], h.Bins[j] = h.Bins[j], h.Bins[i] })
	r.Shuffle(len(h.Quants), func(i, j int) { h.Quants[i], h.Quants[j] = h.Quants[j], h.Quants[i] })
	r.Shuffle(len(h.Notices), func(i, j int) { h.Notices[i], h.Notices[j] = h.Notices[j], h.Notices[i] })
}

// anyKey is a key of a few bins, items, lots and statuses.
func anyKey(r *rand.Rand) api.Key {
	return api.Key{Bin: anyOf(r, "b", 9), Item: anyOf(r, "i", 4), Lot: oneOf(r, "", "l0"), Status: oneOf(r, 1+r.Intn(2), 0, 3)}
}

// anyCame is something that comes: in most cases of a line of one of the house's notices, at one of its docks, and no more than is left.
func anyCame(r *rand.Rand, h api.House) Came {
	x := Came{Notice: anyOf(r, "n", 9), Item: anyOf(r, "i", 4), Unit: "each", N: anyNumber(r, 1+r.Intn(9)), Lot: anyOf(r, "l", 3), Dock: anyOf(r, "b", 9)}
	if len(h.Notices) == 0 || r.Intn(9) == 0 {
		return x
	}
	n := h.Notices[r.Intn(len(h.Notices))]
	x.Notice = n.Code
	l := n.Lines[r.Intn(len(n.Lines))]
	if l.Item != "" {
		x.Item = l.Item
	}
	item, _ := items.Find(h, x.Item)
	switch {
	case !item.Lots:
		x.Lot = oneOf(r, "", "l0")
	case item.Serial:
		x.N = oneOf(r, 1, 2)
	}
	if left := l.Asked - l.Done; !item.Serial && left > 0 && r.Intn(3) == 0 {
		x.N = left + r.Intn(2)
	}
	if r.Intn(4) == 0 {
		x.Unit = oneOf(r, "box", "bag", "")
	}
	for _, i := range r.Perm(len(h.Bins)) {
		if b := h.Bins[i]; b.Kind == api.Dock && r.Intn(8) > 0 && (layout.Site(h, b.Code) == n.Site || r.Intn(8) == 0) {
			x.Dock = b.Code
		}
	}
	return x
}

// step is a call of a random walk, what it answered, and what the words say.
type step struct {
	what         string
	g, then      api.House
	to, bin      string
	e, want      api.Errno
	came, stowed bool
}

// anyStep makes a random call.
func anyStep(r *rand.Rand, h api.House) step {
	s := step{}
	switch r.Intn(8) {
	case 0, 1:
		x := anyNotice(r)
		s.what = "Announce"
		s.g, s.e = Announce(h, x)
		s.then, s.want = announceByWords(h, x)
	case 2, 3, 4:
		x := anyCame(r, h)
		s.what, s.came = "Receive", true
		s.g, s.e = Receive(h, x)
		s.then, s.want = receiveByWords(h, x)
	case 5:
		code := anyOf(r, "n", 9)
		if r.Intn(2) == 0 {
			code = anyOf(r, "m", 3)
		}
		s.what = "Shut"
		s.g, s.e = Shut(h, code)
		s.then, s.want = shutByWords(h, code)
	default:
		k, qty := anyKey(r), anyNumber(r, 1+r.Intn(9))
		if len(h.Quants) > 0 && r.Intn(5) > 0 {
			q := h.Quants[r.Intn(len(h.Quants))]
			k, qty = q.Key, anyNumber(r, 1+r.Intn(max(1, min(q.Qty+1, 30))))
		}
		s.what, s.stowed = "Stow", true
		s.g, s.to, s.e = Stow(h, k, qty)
		s.then, s.bin, s.want = stowByWords(h, k, qty)
	}
	return s
}

// TestByTheWords: P14.1 to P14.5, thousands of random houses and calls, each behind the other, held against the words of the document.
func TestByTheWords(t *testing.T) {
	r := rand.New(rand.NewSource(14))
	seen := map[string]int{}
	for i := range 2000 {
		h := anyHouse(r)
		if i%2 == 0 {
			spoil(r, &h)
		}
		for range 60 {
			l := anyLines(r, r.Intn(2) == 0)
			want := linesByWords(h, l)
			seen["Lines "+strconv.Itoa(int(want))]++
			errno(t, "Lines", Lines(h, l), want)

			s := anyStep(r, h)
			seen[s.what+" "+strconv.Itoa(int(s.want))]++
			outcome(t, s.what, s.g, s.e, s.then, s.want)
			if s.to != s.bin {
				t.Errorf("%s: the bin is %q, want %q", s.what, s.to, s.bin)
			}
			if t.Failed() {
				t.Fatalf("%+v in the house %+v", l, h)
			}
			if s.e == api.OK {
				h = s.g
			}
		}
	}
	for _, what := range []string{"Lines 0", "Lines 5", "Lines 10", "Lines 11", "Lines 12", "Announce 0", "Announce 3", "Announce 4", "Announce 5", "Announce 10", "Announce 11", "Announce 12", "Announce 13", "Announce 14",
		"Receive 0", "Receive 10", "Receive 12", "Receive 13", "Receive 16", "Receive 20", "Receive 21", "Receive 22", "Receive 23", "Receive 24", "Receive 25", "Receive 26", "Receive 29",
		"Shut 0", "Shut 12", "Shut 13", "Stow 0", "Stow 10", "Stow 12", "Stow 23", "Stow 25", "Stow 27", "Stow 30"} {
		if seen[what] < 20 {
			t.Errorf("%s came up %d times", what, seen[what])
		}
	}
}

// inBooks is what the totals say of what came in of an item and lot.
func inBooks(h api.House, item, lot string) int {
	sum := 0
	for _, t := range h.Totals {
		if t.Item == item && t.Lot == lot {
			sum += t.In
		}
	}
	return sum
}

// announcedOf is what was announced of an item in all notices, and what was received of it.
func announcedOf(h api.House, item string) (asked, done int) {
	for _, n := range h.Notices {
		for _, l := range n.Lines {
			if l.Item == item {
				asked += l.Asked
				done += l.Done
			}
		}
	}
	return asked, done
}

// conserved checks P14.6 of a house into which nothing came but by Receive.
func conserved(t *testing.T, h api.House) {
	t.Helper()
	for _, x := range h.Items {
		in := 0
		for _, lot := range []string{"", "l0", "l1", "l2"} {
			n := stock.Total(h, x.Code, lot)
			if books := inBooks(h, x.Code, lot); books != n {
				t.Errorf("%d of %s %s are in stock, and %d came in", n, x.Code, lot, books)
			}
			in += n
		}
		if asked, done := announcedOf(h, x.Code); done != in || done > asked {
			t.Errorf("of %s %d were announced and %d received, and %d are in stock", x.Code, asked, done, in)
		}
	}
	for _, n := range h.Notices {
		for _, l := range n.Lines {
			if l.Done < 0 || l.Done > l.Asked {
				t.Errorf("%d of %d came of %s", l.Done, l.Asked, l.Item)
			}
		}
	}
	if !slices.IsSortedFunc(h.Notices, byCode) || !slices.IsSortedFunc(h.Totals, byItem) || len(h.Notices) > 32 || len(room.Over(h)) > 0 {
		t.Errorf("the house is %+v", h)
	}
}

// TestConserved: P14.6, in walks from houses without stock no more is received than was announced, what is received is in stock and in the totals, and stowing changes no total.
func TestConserved(t *testing.T) {
	r := rand.New(rand.NewSource(41))
	came, stowed := 0, 0
	for range 400 {
		h := anyHouse(r)
		for range 150 {
			s := anyStep(r, h)
			if s.e != api.OK {
				continue
			}
			if s.came {
				came++
			}
			if s.stowed {
				stowed++
				if !slices.Equal(s.g.Totals, h.Totals) || !slices.Equal(s.g.Notices, h.Notices) {
					t.Errorf("the totals behind Stow are %+v, want %+v", s.g.Totals, h.Totals)
				}
			}
			h = s.g
			conserved(t, h)
			if t.Failed() {
				t.Fatal(s.what)
			}
		}
	}
	if came < 1000 || stowed < 1000 {
		t.Errorf("%d times something came, and %d times some was stowed", came, stowed)
	}
}

// TestAtItsDock: P14.6, just what is received stands at its dock more than before, free or held.
func TestAtItsDock(t *testing.T) {
	for _, came := range []string{"n nut box 1 - d", "n nut each 7 - e", "n milk box 2 a d", "n milk each 1 b e", "n pump each 1 2 d", "n pill each 5 - e"} {
		x := cameOf(came)
		w := usual()
		w.quants = "d/milk/a/2=3 d/nut//1=4 e/nut//2=5"
		h := w.house()
		g, e := Receive(h, x)
		errno(t, "Receive of "+came, e, api.OK)
		item, _ := items.Find(h, x.Item)
		qty, _ := units.Base(item, x.Unit, x.N)
		k := api.Key{Bin: x.Dock, Item: x.Item, Lot: x.Lot, Status: api.Free}
		if item.Check {
			k.Status = api.Hold
		}
		before, _ := stock.Find(h, k)
		after, found := stock.Find(g, k)
		if !found || after.Qty != before.Qty+qty || stock.Total(g, x.Item, x.Lot) != stock.Total(h, x.Item, x.Lot)+qty || inBooks(g, x.Item, x.Lot) != qty {
			t.Errorf("Receive of %s: %+v stand there behind %+v", came, after, before)
		}
	}
}

// roomy is l with unused capacity behind it, filled with a mark that no call may touch.
func roomy[T any](l []T, mark T) (short, whole []T) {
	whole = append(slices.Clone(l), mark, mark, mark)
	return whole[:len(l)], whole
}

// roomyHouse is the house of words whose lists have unused capacity, and a check that neither changed.
func roomyHouse(w words) (api.House, func() bool) {
	h := w.house()
	var items []api.Item
	var lots []api.Lot
	var zones []api.Zone
	var bins []api.Bin
	var quants []api.Quant
	var rules []api.Rule
	var notices []api.Notice
	var totals []api.Total
	h.Items, items = roomy(h.Items, itemOf("nut=9,9"))
	h.Lots, lots = roomy(h.Lots, lotOf("milk/x"))
	h.Zones, zones = roomy(h.Zones, zoneOf("z/x"))
	h.Bins, bins = roomy(h.Bins, binOf("d/z=1,1"))
	h.Quants, quants = roomy(h.Quants, quantOf("d/nut//1=9"))
	h.Rules, rules = roomy(h.Rules, ruleOf("/z/0"))
	h.Notices, notices = roomy(h.Notices, noticeOf("n/s nut=9"))
	h.Totals, totals = roomy(h.Totals, totalOf("nut/=9"))
	kept := api.House{
		Items: slices.Clone(items), Lots: slices.Clone(lots), Zones: slices.Clone(zones), Bins: slices.Clone(bins),
		Quants: slices.Clone(quants), Rules: slices.Clone(rules), Notices: slices.Clone(notices), Totals: slices.Clone(totals),
	}
	return h, func() bool {
		return slices.Equal(items, kept.Items) && slices.Equal(lots, kept.Lots) && slices.Equal(zones, kept.Zones) && slices.Equal(bins, kept.Bins) &&
			slices.Equal(quants, kept.Quants) && slices.Equal(rules, kept.Rules) && slices.Equal(notices, kept.Notices) && slices.Equal(totals, kept.Totals)
	}
}

// TestNothingElseChanges: R2, the house that is passed stays as it is, its lists and their unused capacity too; the lists that a call changed are new memory.
func TestNothingElseChanges(t *testing.T) {
	sorted, unsorted := usual(), usual()
	sorted.quants = "d/milk/a/2=9 d/nut//1=9 d/nut//2=3 s/nut//1=4"
	unsorted.items = "tile=0,0 nut=1,1 milk=1,0:lc nut=2,2 bolt=2,3"
	unsorted.quants = "s/nut//1=4 d/nut//1=9 d/milk/a/2=9 d/nut//1=1"
	unsorted.notices = "q/s nut=1; n/s milk=30 nut=20; o/s! nut=20; n/t nut=5"
	unsorted.totals = "nut/=9 milk/a=9 bolt/=1 nut/=2"
	for _, w := range []words{sorted, unsorted, {}} {
		h, unchanged := roomyHouse(w)
		check := func(what string) {
			t.Helper()
			if !unchanged() {
				t.Fatalf("%s changed a list, or what is behind it", what)
			}
			same(t, what+": the house that was passed", h, w.house())
		}
		for _, notice := range []string{"", "a/s nut=1", "n/s nut=1", "z/t milk=5 - nut=3", "z/s nut=0", "z/s! nut=1"} {
			x := noticeOf(notice)
			kept := x
			g, e := Announce(h, x)
			Lines(h, x.Lines)
			if e == api.OK {
				clear(g.Notices[:cap(g.Notices)])
			}
			if x != kept {
				t.Errorf("Announce changed the notice %+v", x)
			}
			check("Announce of " + notice)
		}
		for _, came := range []string{"n nut each 3 - d", "n nut box 1 - e", "n milk each 2 b d", "n milk each 2 a d", "n nut each 99 - d", "n nut each 1 - s", "x nut each 1 - d", "o nut each 1 - d"} {
			g, e := Receive(h, cameOf(came))
			if e == api.OK {
				clear(g.Notices[:cap(g.Notices)])
				clear(g.Quants[:cap(g.Quants)])
				clear(g.Totals[:cap(g.Totals)])
			}
			check("Receive of " + came)
		}
		for _, code := range []string{"n", "o", "p", "q", "x", ""} {
			g, e := Shut(h, code)
			if e == api.OK {
				clear(g.Notices[:cap(g.Notices)])
			}
			check("Shut of " + code)
		}
		for _, key := range []string{"d/nut//1", "d/milk/a/2", "d/nut//2", "d/nut//3", "s/nut//1", "x/nut//1"} {
			for _, qty := range []int{-1, 0, 1, 3, 9, 10, 99} {
				g, _, e := Stow(h, keyOf(key), qty)
				if e == api.OK {
					clear(g.Quants[:cap(g.Quants)])
				}
				check("Stow of " + key)
			}
		}
	}
}

// TestTwice: R3, the same calls answer the same.
func TestTwice(t *testing.T) {
	r := rand.New(rand.NewSource(3))
	for range 200 {
		h := anyHouse(r)
		spoil(r, &h)
		x, came, k := anyNotice(r), anyCame(r, h), anyKey(r)
		first, e := Announce(h, x)
		again, f := Announce(h, x)
		outcome(t, "Announce again", again, f, first, e)
		first, e = Receive(h, came)
		again, f = Receive(h, came)
		outcome(t, "Receive again", again, f, first, e)
		first, e = Shut(h, x.Code)
		again, f = Shut(h, x.Code)
		outcome(t, "Shut again", again, f, first, e)
		first, to, e := Stow(h, k, 1)
		stows(t, "Stow again", h, k, 1, first, to, e)
	}
}
