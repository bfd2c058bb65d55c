package alloc

import (
	"math/rand"
	"reflect"
	"slices"
	"strconv"
	"testing"

	"stevedore/api"
)

// whole is a house whose lists are as long as their memory, so that their unused capacity is seen too.
func whole(h api.House) api.House {
	v := reflect.ValueOf(&h).Elem()
	for i := range v.NumField() {
		if f := v.Field(i); f.Kind() == reflect.Slice {
			f.Set(f.Slice3(0, f.Cap(), f.Cap()))
		}
	}
	return h
}

// copied is a house with lists of its own.
func copied(h api.House) api.House {
	v := reflect.ValueOf(&h).Elem()
	for i := range v.NumField() {
		if f := v.Field(i); f.Kind() == reflect.Slice {
			f.Set(reflect.AppendSlice(reflect.MakeSlice(f.Type(), 0, f.Len()), f))
		}
	}
	return h
}

// roomy is a house whose lists have unused capacity, filled with marks that no call may touch.
func roomy(h api.House) api.House {
	mark := copied(with("a/nut//1=77,7", "o/s nut=77", "o/0/a/nut//1=77,7").house())
	v, m := reflect.ValueOf(&h).Elem(), reflect.ValueOf(mark)
	for i := range v.NumField() {
		f := v.Field(i)
		if f.Kind() != reflect.Slice {
			continue
		}
		l := reflect.AppendSlice(reflect.MakeSlice(f.Type(), 0, f.Len()+3), f)
		for range 3 {
			l = reflect.Append(l, m.Field(i).Index(0))
		}
		f.Set(l.Slice(0, f.Len()))
	}
	return h
}

// wipe clears the lists of a house that a call may have changed, all of their memory, where they are not those that were passed.
func wipe(g, passed api.House) {
	if !sameMemory(g.Quants, passed.Quants) {
		clear(g.Quants[:cap(g.Quants)])
	}
	if !sameMemory(g.Orders, passed.Orders) {
		clear(g.Orders[:cap(g.Orders)])
	}
	if !sameMemory(g.Claims, passed.Claims) {
		clear(g.Claims[:cap(g.Claims)])
	}
}

// sameMemory tells whether two lists are one.
func sameMemory[T any](a, b []T) bool {
	return cap(a) == 0 || cap(b) == 0 || &a[:1][0] == &b[:1][0]
}

// calls is each call of the package in a house.
func calls(h api.House) map[string]func() (api.House, api.Errno) {
	l := map[string]func() (api.House, api.Errno){}
	for _, x := range []string{"o/s nut=1", "a/s nut=3 pin=5", "z/t milk=5 - nut=3", "a/s nut=0", "a/r nut=1"} {
		l["Order of "+x] = func() (api.House, api.Errno) { return Order(h, orderOf(x)) }
	}
	for _, c := range []string{"o/0/a/nut//1=2", "o/0/a/nut//1=-2", "o/0/a/nut//1=0", "o/0/b/nut//1=4", "a/0/a/nut//1=1", "z/0/a/nut//1=1,7", "z/9/a/nut//1=0"} {
		l["Claim of "+c] = func() (api.House, api.Errno) { return Claim(h, claimOf(c)) }
	}
	for _, code := range []string{"", "a", "n", "o", "p", "q", "r", "x"} {
		l["Allocate of "+code] = func() (api.House, api.Errno) { return Allocate(h, code) }
		l["Drop of "+code] = func() (api.House, api.Errno) { return Drop(h, code) }
		l["Claimed of "+code] = func() (api.House, api.Errno) { return zero, api.Errno(-Claimed(h, code, 0)) }
	}
	return l
}

// TestNothingElseChanges: R2, the house that is passed stays as it is, its lists and their unused capacity too; the lists that a call changed are new memory.
func TestNothingElseChanges(t *testing.T) {
	done := 0
	for _, b := range []books{
		{"a/nut//1=5,2 b/nut//1=4 c/milk/b/1=7", "n/s nut=4,1; o/s nut=9 pin=1; p/s nut=1 milk=3; q/s nut=1,1; r/s", "o/0/a/nut//1=2"},
		{"c/nut//1=5 a/nut//1=5,2 a/nut//1=3,1 b/nut//1=4", "q/s nut=2; o/s nut=9; n/t milk=3; o/t nut=1; a/s nut=20", "q/0/a/nut//1=1,7 o/0/a/nut//1=1 n/0/c/nut//1=1 o/0/a/nut//1=1"},
		{"", "o/s nut=9", ""},
		{},
	} {
		for _, h := range []api.House{roomy(b.house()), copied(b.house()), roomy(full(b, 128)), roomy(zero)} {
			kept := copied(whole(h))
			for what, call := range calls(h) {
				if g, e := call(); e == api.OK {
					wipe(g, h)
					done++
				}
				if !reflect.DeepEqual(whole(h), kept) {
					t.Fatalf("%s changed a list, or what is behind it: %+v, want %+v", what, whole(h), kept)
				}
			}
		}
	}
	if done < 50 {
		t.Errorf("only %d calls were done", done)
	}
}

// TestNewMemory: R2, the lists that a call answers otherwise than they were passed share no memory with them.
func TestNewMemory(t *testing.T) {
	h := roomy(with("a/nut//1=5 b/nut//1=4", "n/s nut=3; o/s nut=6; p/s nut=1", "n/0/a/nut//1=3 o/0/a/nut//1=1").house())
	h.Quants[0].Held = 4
	allocated, _ := Allocate(h, "o")
	dropped, _ := Drop(h, "n")
	ordered, _ := Order(h, orderOf("q/s nut=1"))
	claimed, _ := Claim(h, claimOf("p/0/b/nut//1=1"))
	for what, shared := range map[string]bool{
		"Allocate's quants": sameMemory(allocated.Quants, h.Quants), "Allocate's orders": sameMemory(allocated.Orders, h.Orders), "Allocate's claims": sameMemory(allocated.Claims, h.Claims),
		"Drop's quants": sameMemory(dropped.Quants, h.Quants), "Drop's orders": sameMemory(dropped.Orders, h.Orders), "Drop's claims": sameMemory(dropped.Claims, h.Claims),
		"Order's orders": sameMemory(ordered.Orders, h.Orders), "Claim's claims": sameMemory(claimed.Claims, h.Claims),
	} {
		if shared {
			t.Errorf("%s are in the memory of those that were passed", what)
		}
	}
}

// TestAnswersStay: R2, what was returned stays as it is, its unused capacity too, whatever is called behind it.
func TestAnswersStay(t *testing.T) {
	r := rand.New(rand.NewSource(2))
	type answer struct{ got, want api.House }
	for range 60 {
		var all []answer
		anyWalk(r, 40, func(h api.House, s step) {
			for _, g := range []api.House{h, s.g} {
				all = append(all, answer{whole(g), copied(whole(g))})
			}
		})
		for _, a := range all {
			if !reflect.DeepEqual(emptyLists(a.got), emptyLists(a.want)) {
				t.Fatalf("an answer is %+v, and was %+v", a.got, a.want)
			}
		}
	}
}

// TestTwice: R3, the same calls answer the same.
func TestTwice(t *testing.T) {
	r := rand.New(rand.NewSource(3))
	for i := range 300 {
		h := anyHouse(r)
		if i%2 == 0 {
			spoil(r, &h)
		}
		for range 6 {
			if g, e := Order(h, anyOrder(r)); e == api.OK {
				h = g
			}
		}
		for _, x := range slices.Clone(h.Orders) {
			for name, call := range map[string]func(api.House, string) (api.House, api.Errno){"Allocate": Allocate, "Drop": Drop} {
				first, e := call(h, x.Code)
				again, f := call(h, x.Code)
				outcome(t, name+" again in house "+strconv.Itoa(i), again, f, first, e)
			}
			c := anyClaim(r, h)
			first, e := Claim(h, c)
			again, f := Claim(h, c)
			outcome(t, "Claim again", again, f, first, e)
			if g, e := Allocate(h, x.Code); e == api.OK {
				h = g
			}
		}
	}
}
