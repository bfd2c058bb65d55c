package index

import (
	"slices"
	"strings"
	"testing"

	"stevedore/api"
	"stevedore/layout"
	"stevedore/lots"
)

// step is a house that is followed, and what is taken then of all nuts at s, and of all pins.
type step struct {
	why        string
	w          words
	nuts, pins string
}

// steps checks an index that follows houses one behind the other, each of them twice, and one that follows each of them behind each other.
func steps(t *testing.T, l []step) {
	t.Helper()
	x := New()
	for _, s := range l {
		nuts, pins := listOf(s.nuts, takeOf), listOf(s.pins, takeOf)
		for range 2 {
			x.Follow(s.w.house())
			took(t, s.why+": Pick of nuts", x.Pick("s", "nut", 1000), nuts)
			took(t, s.why+": Pick of pins", x.Pick("s", "pin", 1000), pins)
		}
		took(t, s.why+": Naive of nuts", Naive(s.w.house(), "s", "nut", 1000), nuts)
		took(t, s.why+": Naive of pins", Naive(s.w.house(), "s", "pin", 1000), pins)
		for _, before := range l {
			y := following(before.w.house(), s.w.house())
			took(t, s.why+", behind "+before.why+": Pick of nuts", y.Pick("s", "nut", 1000), nuts)
			took(t, s.why+", behind "+before.why+": Pick of pins", y.Pick("s", "pin", 1000), pins)
		}
	}
}

// base is a house with nuts and pins in some bins.
func base() words {
	return words{
		lots:   "nut/a=30 nut/b=20 pin/a=5",
		zones:  "y/t z/s",
		bins:   "b1/z b2/z b3/z c1/y",
		quants: "b1/nut/a=2 b1/pin/a=3 b2/nut/b=4 b3/nut/a=5 c1/nut/a=6",
	}
}

// changed is the base with some of a text replaced, in the only list that has it.
func changed(t *testing.T, old, text string) words {
	t.Helper()
	w := base()
	count := 0
	for _, l := range []*string{&w.lots, &w.zones, &w.bins, &w.quants} {
		count += strings.Count(*l, old)
		*l = strings.Replace(*l, old, text, 1)
	}
	if count != 1 {
		t.Fatalf("%q occurs %d times", old, count)
	}
	return w
}

// TestFollowQuants: P15.2, fewer, more and other quants.
func TestFollowQuants(t *testing.T) {
	nuts, pins := "b2/nut/b=4 b1/nut/a=2 b3/nut/a=5", "b1/pin/a=3"
	steps(t, []step{
		{"the base", base(), nuts, pins},
		{"more of a quant", changed(t, "b1/nut/a=2", "b1/nut/a=9"), "b2/nut/b=4 b1/nut/a=9 b3/nut/a=5", pins},
		{"less of a quant", changed(t, "b3/nut/a=5", "b3/nut/a=1"), "b2/nut/b=4 b1/nut/a=2 b3/nut/a=1", pins},
		{"some held", changed(t, "b2/nut/b=4", "b2/nut/b=4,3"), "b2/nut/b=1 b1/nut/a=2 b3/nut/a=5", pins},
		{"all held", changed(t, "b2/nut/b=4", "b2/nut/b=4,4"), "b1/nut/a=2 b3/nut/a=5", pins},
		{"not held any more", base(), nuts, pins},
		{"more of a quant, and so much more held", changed(t, "b2/nut/b=4", "b2/nut/b=9,5"), nuts, pins},
		{"another status", changed(t, "b2/nut/b=4", "b2/nut/b#2=4"), "b1/nut/a=2 b3/nut/a=5", pins},
		{"a quant that is gone", changed(t, "b2/nut/b=4 ", ""), "b1/nut/a=2 b3/nut/a=5", pins},
		{"the first quant is gone", changed(t, "b1/nut/a=2 ", ""), "b2/nut/b=4 b3/nut/a=5", pins},
		{"the last quant of an item is gone", changed(t, "b1/pin/a=3 ", ""), nuts, ""},
		{"the last quant of an item is held", changed(t, "b1/pin/a=3", "b1/pin/a=3,3"), nuts, ""},
		{"it is there again", base(), nuts, pins},
		{"one more quant, first of all", changed(t, "b1/nut/a=2", "b1/nut/a=2 b1/nut/b=7"), "b1/nut/b=7 b2/nut/b=4 b1/nut/a=2 b3/nut/a=5", pins},
		{"one more quant, in the middle", changed(t, "b2/nut/b=4", "b2/nut/a=7 b2/nut/b=4"), "b2/nut/b=4 b1/nut/a=2 b2/nut/a=7 b3/nut/a=5", pins},
		{"one more quant, last of all", changed(t, "b3/nut/a=5", "b3/nut/=7 b3/nut/a=5"), "b2/nut/b=4 b1/nut/a=2 b3/nut/a=5 b3/nut/=7", pins},
		{"moved into another bin", changed(t, "b2/nut/b=4", "b3/nut/b=4"), "b3/nut/b=4 b1/nut/a=2 b3/nut/a=5", pins},
		{"moved to another site", changed(t, "b2/nut/b=4", "c1/nut/b=4"), "b1/nut/a=2 b3/nut/a=5", pins},
		{"moved from another site", changed(t, "c1/nut/a=6", "b2/nut/a=6"), "b2/nut/b=4 b1/nut/a=2 b2/nut/a=6 b3/nut/a=5", pins},
		{"of another item now", changed(t, "b2/nut/b=4", "b2/pin/b=4"), "b1/nut/a=2 b3/nut/a=5", "b1/pin/a=3 b2/pin/b=4"},
		{"of another lot now", changed(t, "b2/nut/b=4", "b2/nut/a=4"), "b1/nut/a=2 b2/nut/a=4 b3/nut/a=5", pins},
		{"two that changed what there is of them", changed(t, "b1/nut/a=2 b1/pin/a=3 b2/nut/b=4 b3/nut/a=5", "b1/nut/a=5 b1/pin/a=3 b2/nut/b=4 b3/nut/a=2"), "b2/nut/b=4 b1/nut/a=5 b3/nut/a=2", pins},
		{"quants in another order", changed(t, "b1/nut/a=2 b1/pin/a=3 b2/nut/b=4 b3/nut/a=5", "b3/nut/a=5 b2/nut/b=4 b1/pin/a=3 b1/nut/a=2"), nuts, pins},
		{"no quants", words{base().lots, base().zones, base().bins, ""}, "", ""},
		{"quants alone", words{"", "", "", base().quants}, "", ""},
		{"nothing", words{}, "", ""},
		{"the base at the end", base(), nuts, pins},
	})
}

// TestFollowTwins: P15.2, quants that are alike in all but how much there is are taken as they stand in the house.
func TestFollowTwins(t *testing.T) {
	var l []step
	for _, c := range []struct{ why, quants, nuts string }{
		{"one", "b1/nut/a=1", "b1/nut/a=1"},
		{"one more behind it", "b1/nut/a=1 b1/nut/a=2", "b1/nut/a=1 b1/nut/a=2"},
		{"the other way", "b1/nut/a=2 b1/nut/a=1", "b1/nut/a=2 b1/nut/a=1"},
		{"three", "b1/nut/a=2 b1/nut/a=3 b1/nut/a=1", "b1/nut/a=2 b1/nut/a=3 b1/nut/a=1"},
		{"with others between", "b1/nut/a=3 b2/nut/a=9 b1/nut/a=2 b3/nut/b=8 b1/nut/a=1", "b3/nut/b=8 b1/nut/a=3 b1/nut/a=2 b1/nut/a=1 b2/nut/a=9"},
		{"without the first", "b2/nut/a=9 b1/nut/a=2 b3/nut/b=8 b1/nut/a=1", "b3/nut/b=8 b1/nut/a=2 b1/nut/a=1 b2/nut/a=9"},
		{"the first one held", "b1/nut/a=3,3 b1/nut/a=2 b1/nut/a=1", "b1/nut/a=2 b1/nut/a=1"},
		{"the middle one held", "b1/nut/a=3 b1/nut/a=2,2 b1/nut/a=1", "b1/nut/a=3 b1/nut/a=1"},
		{"three of a quantity", "b1/nut/a=2 b1/nut/a=2 b1/nut/a=2", "b1/nut/a=2 b1/nut/a=2 b1/nut/a=2"},
		{"two of a quantity", "b1/nut/a=2 b1/nut/a=2", "b1/nut/a=2 b1/nut/a=2"},
		{"two of a quantity, and one ahead", "b1/nut/a=5 b1/nut/a=2 b1/nut/a=2", "b1/nut/a=5 b1/nut/a=2 b1/nut/a=2"},
		{"of two items and lots", "b1/pin/a=4 b1/nut/b=7 b1/nut/a=5 b1/nut/b=6 b1/nut/a=2", "b1/nut/b=7 b1/nut/b=6 b1/nut/a=5 b1/nut/a=2"},
		{"none", "", ""},
	} {
		w := base()
		w.quants = c.quants
		pins := ""
		if strings.Contains(c.quants, "pin") {
			pins = "b1/pin/a=4"
		}
		l = append(l, step{c.why, w, c.nuts, pins})
	}
	steps(t, l)
}

// TestFollowBins: P15.2, bins and zones that are others now, while no quant is.
func TestFollowBins(t *testing.T) {
	nuts, pins := "b2/nut/b=4 b1/nut/a=2 b3/nut/a=5", "b1/pin/a=3"
	steps(t, []step{
		{"the base", base(), nuts, pins},
		{"a bin frozen", changed(t, "b2/z", "b2/z!"), "b1/nut/a=2 b3/nut/a=5", pins},
		{"not frozen any more", base(), nuts, pins},
		{"another bin frozen, of two items", changed(t, "b1/z", "b1/z!"), "b2/nut/b=4 b3/nut/a=5", ""},
		{"a frozen bin of another site", changed(t, "c1/y", "c1/y!"), nuts, pins},
		{"a bin of another kind", changed(t, "b3/z", "b3/z#2"), "b2/nut/b=4 b1/nut/a=2", pins},
		{"a bin that is gone", changed(t, "b3/z ", ""), "b2/nut/b=4 b1/nut/a=2", pins},
		{"a bin of another zone", changed(t, "b3/z", "b3/y"), "b2/nut/b=4 b1/nut/a=2", pins},
		{"a bin of another site comes to this one", changed(t, "c1/y", "c1/z"), "b2/nut/b=4 b1/nut/a=2 b3/nut/a=5 c1/nut/a=6", pins},
		{"a bin of a zone that is not there", changed(t, "b3/z", "b3/gone"), "b2/nut/b=4 b1/nut/a=2", pins},
		{"a bin ahead of the one of its code", changed(t, "b1/z", "b1/z b2/z#3"), "b1/nut/a=2 b3/nut/a=5", pins},
		{"a bin behind the one of its code", changed(t, "b3/z", "b3/z b2/z#3"), nuts, pins},
		{"one bin more", changed(t, "b1/z", "b0/z b1/z"), nuts, pins},
		{"bins in another order", changed(t, "b1/z b2/z b3/z c1/y", "c1/y b3/z b2/z b1/z"), nuts, pins},
		{"a zone of another site", changed(t, "z/s", "z/u"), "", ""},
		{"a zone of another site comes to this one", changed(t, "y/t", "y/s"), "b2/nut/b=4 b1/nut/a=2 b3/nut/a=5 c1/nut/a=6", pins},
		{"two zones that change their sites", changed(t, "y/t z/s", "y/s z/t"), "c1/nut/a=6", ""},
		{"a zone that is gone", changed(t, "y/t z/s", "y/t"), "", ""},
		{"a zone ahead of the one of its code", changed(t, "y/t z/s", "z/u y/t z/s"), "", ""},
		{"a zone behind the one of its code", changed(t, "y/t z/s", "y/t z/s z/u"), nuts, pins},
		{"no zones", words{base().lots, "", base().bins, base().quants}, "", ""},
		{"no bins", words{base().lots, base().zones, "", base().quants}, "", ""},
		{"the base at the end", base(), nuts, pins},
	})
}

// TestFollowDays: P15.2, lots and days that are others now, while no quant is.
func TestFollowDays(t *testing.T) {
	pins := "b1/pin/a=3"
	late, soon := "b2/nut/b=4 b1/nut/a=2 b3/nut/a=5", "b1/nut/a=2 b3/nut/a=5 b2/nut/b=4"
	steps(t, []step{
		{"the base", base(), late, pins},
		{"a day that comes sooner", changed(t, "nut/a=30", "nut/a=19"), soon, pins},
		{"a day that comes later again", base(), late, pins},
		{"a day that comes later", changed(t, "nut/b=20", "nut/b=31"), soon, pins},
		{"equal days", changed(t, "nut/b=20", "nut/b=30"), soon, pins},
		{"another day in the same order", changed(t, "nut/b=20", "nut/b=21"), late, pins},
		{"no day any more", changed(t, "nut/b=20", "nut/b"), soon, pins},
		{"a lot that is gone", changed(t, "nut/b=20 ", ""), soon, pins},
		{"the other lot is gone", changed(t, "nut/a=30 ", ""), late, pins},
		{"a lot ahead of the one of its code", changed(t, "nut/a=30", "nut/b=40 nut/a=30"), soon, pins},
		{"a lot behind the one of its code", changed(t, "pin/a=5", "pin/a=5 nut/b=40"), late, pins},
		{"a day of another item", changed(t, "pin/a=5", "pin/a=50"), late, pins},
		{"one lot more", changed(t, "pin/a=5", "nut/c=1 pin/a=5"), late, pins},
		{"lots in another order", changed(t, "nut/a=30 nut/b=20", "nut/b=20 nut/a=30"), late, pins},
		{"no lots", words{"", base().zones, base().bins, base().quants}, soon, pins},
		{"the base at the end", base(), late, pins},
	})
}

// TestFollowCalls: P15.2, an index that follows what the calls of the layers below make of a house.
func TestFollowCalls(t *testing.T) {
	w := base()
	w.lots, w.quants = "nut/b=20 pin/a=5", "b1/nut/a=2 b2/nut/b=4"
	h, x := w.house(), New()
	check := func(what, want string) {
		t.Helper()
		x.Follow(h)
		took(t, what, x.Pick("s", "nut", 1000), listOf(want, takeOf))
		took(t, what+": Naive", Naive(h, "s", "nut", 1000), listOf(want, takeOf))
	}
	done := func(g api.House, e api.Errno) {
		t.Helper()
		if e != api.OK {
			t.Fatal(e)
		}
		h = g
	}
	check("a lot that is not there", "b2/nut/b=4 b1/nut/a=2")
	done(lots.Add(h, api.Lot{Item: "nut", Code: "a", Expiry: 1}))
	check("behind lots.Add", "b1/nut/a=2 b2/nut/b=4")
	done(layout.Freeze(h, "b1", true))
	check("behind layout.Freeze", "b2/nut/b=4")
	done(layout.AddBin(h, api.Bin{Code: "b0", Zone: "z", Kind: api.Shelf}))
	h.Quants = append(h.Quants, quantOf("b0/nut/a=3"))
	check("behind layout.AddBin", "b0/nut/a=3 b2/nut/b=4")
	done(layout.Freeze(h, "b1", false))
	check("behind layout.Freeze", "b0/nut/a=3 b1/nut/a=2 b2/nut/b=4")
}

// TestManyItems: P15.2, an index whose items come and go, each by itself.
func TestManyItems(t *testing.T) {
	x := New()
	w := base()
	w.lots = ""
	for round := range 40 {
		var l []string
		for i := range 26 {
			if item := string(rune('a' + i)); (i+round)%5 > 0 {
				l = append(l, "b1/"+item+"/="+strings.Repeat("1", 1+(i+round)%3))
			}
		}
		h := w.with(strings.Join(l, " "))
		x.Follow(h)
		for i := range 26 {
			item := string(rune('a' + i))
			var want []api.Take
			for _, quant := range l {
				if strings.HasPrefix(quant, "b1/"+item+"/") {
					want = append(want, takeOf(quant))
				}
			}
			took(t, "Pick of "+item, x.Pick("s", item, 1000), want)
		}
		if len(x.items) != len(l) {
			t.Errorf("the index has %d items where %d are eligible", len(x.items), len(l))
		}
	}
}

// TestObsolete: what is kept of an item goes with its last eligible quant, and nothing is kept of what is not eligible.
func TestObsolete(t *testing.T) {
	kept := func(x *Index) string {
		var l []string
		for item, list := range x.items {
			if len(list) == 0 {
				t.Errorf("an empty list is kept of %s", item)
			}
			l = append(l, item)
		}
		slices.Sort(l)
		return strings.Join(l, " ")
	}
	x := New()
	for _, c := range []struct {
		w    words
		want string
	}{
		{words{}, ""},
		{base(), "nut pin"},
		{changed(t, "b1/pin/a=3 ", ""), "nut"},
		{base(), "nut pin"},
		{changed(t, "b1/pin/a=3", "b1/pin/a=3,3"), "nut"},
		{changed(t, "b1/pin/a=3", "b1/pin/a#2=3"), "nut"},
		{changed(t, "b1/z", "b1/z!"), "nut"},
		{changed(t, "b1/z", "b1/z#3"), "nut"},
		{changed(t, "b1/z ", ""), "nut"},
		{words{base().lots, base().zones, "", base().quants}, ""},
		{base(), "nut pin"},
		{words{}, ""},
	} {
		x.Follow(c.w.house())
		if got := kept(x); got != c.want {
			t.Errorf("of %+v the index keeps %q, want %q", c.w, got, c.want)
		}
		for item, list := range x.items {
			if n := len(stands(c.w.house(), item)); n != len(list) {
				t.Errorf("%d are kept of %d eligible quants of %s", len(list), n, item)
			}
		}
	}
}

// TestUntouched: an item's list is written anew neither in part nor in whole where none of its quants, their bins and their days has changed.
func TestUntouched(t *testing.T) {
	for _, c := range []struct{ why, old, text, touched string }{
		{"the same house", "y/t", "y/t", ""},
		{"more of a quant", "b1/nut/a=2", "b1/nut/a=3", "nut"},
		{"more of a quant, and so much more held", "b1/nut/a=2", "b1/nut/a=4,2", ""},
		{"all held of a quant", "b2/nut/b=4", "b2/nut/b=4,4", "nut"},
		{"more of the other item", "b1/pin/a=3", "b1/pin/a=4", "pin"},
		{"the last quant of the other item", "b1/pin/a=3 ", "", "pin"},
		{"one quant more", "b3/nut/a=5", "b3/nut/a=5 b3/nut/=1", "nut"},
		{"a quant of a third item", "b1/pin/a=3", "b1/bolt/a=3 b1/pin/a=3", ""},
		{"a bin of one item", "b2/z", "b2/z!", "nut"},
		{"a bin of both", "b1/z", "b1/z!", "nut pin"},
		{"one bin more", "b1/z", "b0/z b1/z", ""},
		{"the zone of all", "z/s", "z/u", "nut pin"},
		{"a day", "nut/b=20", "nut/b=50", "nut"},
		{"a day of the other item", "pin/a=5", "pin/a=6", "pin"},
		{"one lot more", "nut/a=30", "nut/a=30 nut/c=1", ""},
		{"quants in another order", "b1/nut/a=2 b1/pin/a=3 b2/nut/b=4", "b2/nut/b=4 b1/pin/a=3 b1/nut/a=2", ""},
	} {
		x := following(base().house())
		before := map[string][]stand{}
		for item, l := range x.items {
			before[item] = slices.Clone(l)
		}
		nut, pin := &x.items["nut"][0], &x.items["pin"][0]
		x.Follow(changed(t, c.old, c.text).house())
		untouched(t, c.why, x.items["nut"], before["nut"], nut, !strings.Contains(c.touched, "nut"))
		untouched(t, c.why, x.items["pin"], before["pin"], pin, !strings.Contains(c.touched, "pin"))
	}
}

// untouched checks that a list is as it was before, and where it was, if that is wanted, and that it is not as it was otherwise.
func untouched(t *testing.T, why string, list, before []stand, at *stand, want bool) {
	t.Helper()
	if slices.Equal(list, before) != want {
		t.Errorf("%s: the list is %+v, and was %+v", why, list, before)
	}
	if want && &list[0] != at {
		t.Errorf("%s: the list %+v is a new one", why, list)
	}
}
