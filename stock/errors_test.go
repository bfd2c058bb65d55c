package stock

import (
	"slices"
	"strings"
	"testing"

	"stevedore/api"
)

// attempt is a house, and what is tried there.
type attempt struct {
	h      api.House
	k      api.Key
	qty    int
	to     string
	status int
}

// sound is an attempt that nothing is wrong with: three of five nuts, two of which are held, go where four are.
func sound() attempt {
	h := laid("nut=0,0", "b=0,0 c=0,0", "b/nut//1=5:2 b/nut//2=4 c/nut//1=4")
	return attempt{h: h, k: keyOf("b/nut//1"), qty: 3, to: "c", status: api.Hold}
}

// fault spoils an attempt; want is the error that a promise then names.
type fault struct {
	name  string
	spoil func(a *attempt)
	want  api.Errno
}

// firstErrors makes each set of faults, and checks that a call answers the error of the first one in the order of its promise.
func firstErrors(t *testing.T, what string, call func(a attempt) (api.House, api.Errno), faults ...fault) {
	t.Helper()
	for set := range 1 << len(faults) {
		a, want := sound(), api.OK
		var names []string
		// The first fault comes last, so that no other one takes it away.
		for i, f := range slices.Backward(faults) {
			if set>>i&1 == 1 {
				f.spoil(&a)
				names = append(names, f.name)
				want = f.want
			}
		}
		g, e := call(a)
		if e != want {
			t.Errorf("%s of these faults: %s = %d, want %d", what, strings.Join(names, ", "), int(e), int(want))
		}
		if e != api.OK {
			same(t, what+": the house beside the error", g, zero)
		}
	}
}

// restock gives a house other quants of a key.
func restock(h *api.House, key string, quants ...api.Quant) {
	h.Quants = slices.DeleteFunc(h.Quants, func(q api.Quant) bool { return q.Key == keyOf(key) })
	for _, q := range quants {
		q.Key = keyOf(key)
		h.Quants = append(h.Quants, q)
	}
}

// rebin changes the bin of a code, if it is there.
func rebin(h *api.House, code string, change func(b *api.Bin)) {
	for i := range h.Bins {
		if h.Bins[i].Code == code {
			change(&h.Bins[i])
		}
	}
}

// Faults of several calls.
var (
	tooMuch   = fault{"a quantity that is too great", func(a *attempt) { a.qty = api.MaxQty + 1 }, api.ErrQty}
	nothing   = fault{"a quantity of 0", func(a *attempt) { a.qty = 0 }, api.ErrQty}
	notThere  = fault{"no quant", func(a *attempt) { restock(&a.h, "b/nut//1") }, api.ErrNone}
	tooFew    = fault{"too few", func(a *attempt) { restock(&a.h, "b/nut//1", api.Quant{Qty: 2, Held: 2}) }, api.ErrShort}
	heldThere = fault{"too many held", func(a *attempt) { restock(&a.h, "b/nut//1", api.Quant{Qty: 5, Held: 3}) }, api.ErrHeld}
	frozenBin = fault{"the bin of the key is frozen", func(a *attempt) { rebin(&a.h, "b", func(b *api.Bin) { b.Frozen = true }) }, api.ErrFrozen}
)

// full is the fault of the most at a key.
func full(key string) fault {
	return fault{"the most there", func(a *attempt) { restock(&a.h, key, api.Quant{Qty: api.MaxQty}) }, api.ErrQty}
}

// crowded is the fault of too many quants, and none of a key.
func crowded(key string) fault {
	return fault{"too many quants", func(a *attempt) {
		restock(&a.h, key)
		a.h.Quants = append(a.h.Quants, crowd(api.MaxQuants)...)
	}, api.ErrQuants}
}

// TestFirstError: P12.2 to P12.6 and R1, of several errors the first one that the promise names, for each set of them.
func TestFirstError(t *testing.T) {
	put := func(a attempt) (api.House, api.Errno) { return Put(a.h, a.k, a.qty) }
	take := func(a attempt) (api.House, api.Errno) { return Take(a.h, a.k, a.qty) }
	hold := func(a attempt) (api.House, api.Errno) { return Hold(a.h, a.k, a.qty) }
	move := func(a attempt) (api.House, api.Errno) { return Move(a.h, a.k, a.qty, a.to) }
	status := func(a attempt) (api.House, api.Errno) { return Status(a.h, a.k, a.qty, a.status) }

	sameBin := fault{"to the bin of the key", func(a *attempt) { a.to = a.k.Bin }, api.ErrArg}
	noBin := fault{"no bin", func(a *attempt) { a.h.Bins = a.h.Bins[:1] }, api.ErrNone}
	frozenTo := fault{"the bin is frozen", func(a *attempt) { rebin(&a.h, "c", func(b *api.Bin) { b.Frozen = true }) }, api.ErrFrozen}
	noItem := fault{"no item", func(a *attempt) { a.h.Items = nil }, api.ErrNone}
	noRoom := fault{"no room", func(a *attempt) { rebin(&a.h, "c", func(b *api.Bin) { b.Volume = -1 }) }, api.ErrBinFull}
	noStatus := fault{"no status", func(a *attempt) { a.status = 4 }, api.ErrStatus}
	sameStatus := fault{"the status of the key", func(a *attempt) { a.status = a.k.Status }, api.ErrStatus}
	tooLittle := fault{"a number that is too small", func(a *attempt) { a.qty = -api.MaxQty - 1 }, api.ErrQty}
	belowNothing := fault{"less than nothing held", func(a *attempt) { a.qty = -3 }, api.ErrHeld}

	firstErrors(t, "Hold", hold, notThere, tooMuch, heldThere)
	firstErrors(t, "Hold of less", hold, notThere, tooLittle, belowNothing)
	for _, wrong := range []fault{tooMuch, nothing} {
		firstErrors(t, "Put", put, wrong, full("b/nut//1"), crowded("b/nut//1"))
		firstErrors(t, "Take", take, wrong, notThere, tooFew, heldThere)
		firstErrors(t, "Move", move, sameBin, noBin, frozenBin, frozenTo, wrong, notThere, tooFew, heldThere, noItem, noRoom, full("c/nut//1"), crowded("c/nut//1"))
		firstErrors(t, "Status", status, noStatus, sameStatus, frozenBin, wrong, notThere, tooFew, heldThere, full("b/nut//2"), crowded("b/nut//2"))
	}
}
