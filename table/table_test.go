package table

import (
	"cmp"
	"slices"
	"strconv"
	"strings"
	"testing"
)

// pair is an element: name is its key, n tells elements of one key apart.
type pair struct {
	name string
	n    int
}

var byName = Table[pair]{Order: func(a, b pair) int { return strings.Compare(a.name, b.name) }}

// list makes pairs of words like "a1 c2"; none of "".
func list(text string) []pair {
	var l []pair
	for _, w := range strings.Fields(text) {
		l = append(l, one(w))
	}
	return l
}

func one(word string) pair {
	n, _ := strconv.Atoi(word[1:])
	return pair{word[:1], n}
}

// roomy is l with unused capacity behind it, filled with marks that no call may touch.
func roomy(l []pair) (short, whole []pair) {
	whole = append(slices.Clone(l), pair{"mark", 1}, pair{"mark", 2}, pair{"mark", 3})
	return whole[:len(l)], whole
}

// cases tell, for a list and an x, what each call answers: at is -1 where x's key isn't there.
var cases = []struct {
	list, x   string
	at        int
	put, drop string
}{
	// An empty list, and one element.
	{"", "b9", -1, "b9", ""},
	{"b1", "b9", 0, "b9", ""},
	{"b1", "a9", -1, "a9 b1", "b1"},
	{"b1", "c9", -1, "b1 c9", "b1"},
	// A key that is first, in the middle, last.
	{"a1 c1 e1", "a9", 0, "a9 c1 e1", "c1 e1"},
	{"a1 c1 e1", "c9", 1, "a1 c9 e1", "a1 e1"},
	{"a1 c1 e1", "e9", 2, "a1 c1 e9", "a1 c1"},
	// A key that isn't there: ahead of all, between, behind all.
	{"b1 d1 f1", "a9", -1, "a9 b1 d1 f1", "b1 d1 f1"},
	{"b1 d1 f1", "c9", -1, "b1 c9 d1 f1", "b1 d1 f1"},
	{"b1 d1 f1", "e9", -1, "b1 d1 e9 f1", "b1 d1 f1"},
	{"b1 d1 f1", "g9", -1, "b1 d1 f1 g9", "b1 d1 f1"},
	// Several of one key: the first one counts, the others stay.
	{"a1 a2 a3", "a9", 0, "a9 a2 a3", "a2 a3"},
	{"a1 c1 c2 e1", "c9", 1, "a1 c9 c2 e1", "a1 c2 e1"},
	{"c1 a1 c2", "c9", 0, "c9 a1 c2", "a1 c2"},
	{"a1 c1 a2", "c9", 1, "a1 c9 a2", "a1 a2"},
	{"a1 c1 e1 e2", "e9", 2, "a1 c1 e9 e2", "a1 c1 e2"},
	{"a1 a2 c1 c2", "b9", -1, "a1 a2 b9 c1 c2", "a1 a2 c1 c2"},
	// Not sorted: the key may stand behind a greater one, and the first greater one is where x goes.
	{"d1 b1", "b9", 1, "d1 b9", "d1"},
	{"d1 b1", "c9", -1, "c9 d1 b1", "d1 b1"},
	{"e1 a1 c1", "c9", 2, "e1 a1 c9", "e1 a1"},
	{"a1 e1 b1 f1", "d9", -1, "a1 d9 e1 b1 f1", "a1 e1 b1 f1"},
	{"e1 d1 c1 b1", "a9", -1, "a9 e1 d1 c1 b1", "e1 d1 c1 b1"},
	{"d1 a1 c1 b1", "e9", -1, "d1 a1 c1 b1 e9", "d1 a1 c1 b1"},
	{"d1 a1 d2 a2", "a9", 1, "d1 a9 d2 a2", "d1 d2 a2"},
}

// TestFind: P2.1.
func TestFind(t *testing.T) {
	for _, c := range cases {
		i, found := byName.Find(list(c.list), one(c.x))
		if i != max(c.at, 0) || found != (c.at >= 0) {
			t.Errorf("Find of %s in %q = %d, %t", c.x, c.list, i, found)
		}
	}
}

// TestPut: P2.2.
func TestPut(t *testing.T) {
	for _, c := range cases {
		if got := byName.Put(list(c.list), one(c.x)); !slices.Equal(got, list(c.put)) {
			t.Errorf("Put of %s in %q = %v, want %s", c.x, c.list, got, c.put)
		}
	}
}

// TestDrop: P2.2.
func TestDrop(t *testing.T) {
	for _, c := range cases {
		if got := byName.Drop(list(c.list), one(c.x)); !slices.Equal(got, list(c.drop)) {
			t.Errorf("Drop of %s from %q = %v, want %s", c.x, c.list, got, c.drop)
		}
	}
}

// TestKeep: P2.2.
func TestKeep(t *testing.T) {
	odd := func(p pair) bool { return p.n%2 == 1 }
	for _, c := range []struct{ list, want string }{
		{"", ""},
		{"a1", "a1"},
		{"a2", ""},
		{"a1 b1 c1", "a1 b1 c1"},
		{"a2 b4 c6", ""},
		{"a1 b2 c3", "a1 c3"},
		{"a2 b1 c2", "b1"},
		{"c1 a2 b3 a1", "c1 b3 a1"},
		{"a1 a1 a2 a1", "a1 a1 a1"},
	} {
		if got := Keep(list(c.list), odd); !slices.Equal(got, list(c.want)) {
			t.Errorf("Keep of %q = %v, want %s", c.list, got, c.want)
		}
	}
}

// TestRises: P2.3.
func TestRises(t *testing.T) {
	for _, c := range []struct {
		list string
		want bool
	}{
		{"", true},
		{"a1", true},
		{"a2 b1", true},
		{"a1 b1 c1 d1", true},
		{"b1 a1", false},
		{"a1 a1", false},
		{"a1 a2", false},
		{"a1 a2 b1 c1", false},
		{"a1 b1 b2 c1", false},
		{"a1 b1 c1 c2", false},
		{"b1 a1 c1 d1", false},
		{"a1 c1 b1 d1", false},
		{"a1 b1 d1 c1", false},
		{"b1 c1 a1", false},
		{"d1 c1 b1 a1", false},
	} {
		if got := byName.Rises(list(c.list)); got != c.want {
			t.Errorf("Rises of %q = %t", c.list, got)
		}
	}
}

// TestExamples: those of the chapter.
func TestExamples(t *testing.T) {
	l := byName.Put(list("a1 d1"), one("c1"))
	if !slices.Equal(l, list("a1 c1 d1")) {
		t.Fatal(l)
	}
	l = byName.Put(l, one("a2"))
	if !slices.Equal(l, list("a2 c1 d1")) {
		t.Fatal(l)
	}
	if i, found := byName.Find(l, one("b0")); i != 0 || found {
		t.Error(i, found)
	}
	if got := byName.Drop(l, one("a0")); !slices.Equal(got, list("c1 d1")) {
		t.Error(got)
	}
}

// TestNilAndEmpty: a nil list is an empty one, and an empty one with capacity too.
func TestNilAndEmpty(t *testing.T) {
	for _, l := range [][]pair{nil, {}, make([]pair, 0, 4)} {
		if i, found := byName.Find(l, one("a1")); i != 0 || found {
			t.Errorf("Find = %d, %t", i, found)
		}
		if got := byName.Put(l, one("a1")); !slices.Equal(got, list("a1")) {
			t.Errorf("Put = %v", got)
		}
		if got := byName.Drop(l, one("a1")); len(got) != 0 {
			t.Errorf("Drop = %v", got)
		}
		if got := Keep(l, func(pair) bool { return true }); len(got) != 0 {
			t.Errorf("Keep = %v", got)
		}
		if !byName.Rises(l) {
			t.Error("Rises = false")
		}
	}
}

// TestOtherElements: any type of elements serves: numbers, pointers, and keys of several fields.
func TestOtherElements(t *testing.T) {
	down := Table[int]{Order: func(a, b int) int { return cmp.Compare(b, a) }}
	if got := down.Put([]int{9, 5, 1}, 7); !slices.Equal(got, []int{9, 7, 5, 1}) || !down.Rises(got) {
		t.Error(got)
	}
	byBoth := Table[pair]{Order: func(a, b pair) int {
		return cmp.Or(strings.Compare(a.name, b.name), cmp.Compare(a.n, b.n))
	}}
	if got := byBoth.Put(list("a1 a3 b1"), one("a2")); !slices.Equal(got, list("a1 a2 a3 b1")) || !byBoth.Rises(got) {
		t.Error(got)
	}
	small, great := &pair{"a", 1}, &pair{"b", 1}
	byPointer := Table[*pair]{Order: func(a, b *pair) int { return strings.Compare(a.name, b.name) }}
	if got := byPointer.Put([]*pair{great}, small); !slices.Equal(got, []*pair{small, great}) {
		t.Error(got)
	}
}

// TestAllOneKey: with an Order that is always 0, every element has x's key.
func TestAllOneKey(t *testing.T) {
	same := Table[pair]{Order: func(a, b pair) int { return 0 }}
	l := list("c1 a1 b1")
	if got := same.Put(l, one("x9")); !slices.Equal(got, list("x9 a1 b1")) {
		t.Error(got)
	}
	if got := same.Drop(l, one("x9")); !slices.Equal(got, list("a1 b1")) {
		t.Error(got)
	}
	if same.Rises(l) || !same.Rises(l[:1]) {
		t.Error("Rises")
	}
}

// TestSignOfOrder: only the sign of what Order answers counts.
func TestSignOfOrder(t *testing.T) {
	far := Table[pair]{Order: func(a, b pair) int { return 1000 * strings.Compare(a.name, b.name) }}
	l := list("a1 c1")
	if got := far.Put(l, one("b9")); !slices.Equal(got, list("a1 b9 c1")) || !far.Rises(got) {
		t.Error(got)
	}
}

// changed holds the lists that the calls make of l, by their names.
func changed(l []pair, x pair) map[string][]pair {
	return map[string][]pair{
		"Put":          byName.Put(l, x),
		"Drop":         byName.Drop(l, x),
		"Keep of all":  Keep(l, func(pair) bool { return true }),
		"Keep of some": Keep(l, func(p pair) bool { return p.n == 1 }),
		"Keep of none": Keep(l, func(pair) bool { return false }),
	}
}

// TestListStays: P2.2 and R2, neither a list nor its unused capacity changes.
func TestListStays(t *testing.T) {
	for _, c := range cases {
		short, whole := roomy(list(c.list))
		before := slices.Clone(whole)
		changed(short, one(c.x))
		byName.Find(short, one(c.x))
		byName.Rises(short)
		if !slices.Equal(whole, before) {
			t.Errorf("the calls for %s made %v of %q", c.x, whole, c.list)
		}
	}
}

// TestListsAreNew: P2.2, what is done to a list that came back isn't seen in the one that was passed, nor the other way; also where both are equal.
func TestListsAreNew(t *testing.T) {
	spoil := func(l []pair) {
		l = l[:cap(l)]
		for i := range l {
			l[i] = pair{"spoilt", i}
		}
	}
	for _, c := range cases {
		for _, name := range []string{"Put", "Drop", "Keep of all", "Keep of some", "Keep of none"} {
			short, whole := roomy(list(c.list))
			before := slices.Clone(whole)
			got := changed(short, one(c.x))[name]
			answer := slices.Clone(got)
			spoil(short)
			if !slices.Equal(got, answer) {
				t.Errorf("%s of %s, %q: the answer changes with the list", name, c.x, c.list)
			}
			copy(whole, before)
			spoil(got)
			if !slices.Equal(whole, before) {
				t.Errorf("%s of %s, %q: the list changes with the answer", name, c.x, c.list)
			}
		}
	}
}

// TestAnswersApart: R2, two answers made of one list share no memory, not even its unused capacity.
func TestAnswersApart(t *testing.T) {
	short, _ := roomy(list("a1 c1"))
	first := byName.Put(short, one("d1"))
	second := byName.Put(short, one("e1"))
	if !slices.Equal(first, list("a1 c1 d1")) || !slices.Equal(second, list("a1 c1 e1")) {
		t.Error(first, second)
	}
}

// sortedLists calls do for each sorted list of some of the names a to f.
func sortedLists(do func(l []pair)) {
	for set := range 1 << 6 {
		var l []pair
		for i := range 6 {
			if set>>i&1 == 1 {
				l = append(l, pair{string(rune('a' + i)), 1})
			}
		}
		do(l)
	}
}

// others are the elements whose key isn't that of x.
func others(l []pair, x pair) []pair {
	var out []pair
	for _, p := range l {
		if p.name != x.name {
			out = append(out, p)
		}
	}
	return out
}

// TestSortedStays: P2.4, for each sorted list of up to six names and each name.
func TestSortedStays(t *testing.T) {
	sortedLists(func(l []pair) {
		if !byName.Rises(l) {
			t.Fatalf("Rises of %v = false", l)
		}
		for _, name := range []string{"a", "b", "c", "d", "e", "f"} {
			x := pair{name, 9}
			put := byName.Put(l, x)
			if i, found := byName.Find(put, x); !found || put[i] != x {
				t.Errorf("Find of %v in %v = %d, %t", x, put, i, found)
			}
			if !byName.Rises(put) || !slices.Equal(others(put, x), others(l, x)) {
				t.Errorf("Put of %v in %v = %v", x, l, put)
			}
			drop := byName.Drop(l, x)
			if i, found := byName.Find(drop, x); i != 0 || found {
				t.Errorf("Find of %v in %v = %d, %t", x, drop, i, found)
			}
			if !byName.Rises(drop) || !slices.Equal(drop, others(l, x)) {
				t.Errorf("Drop of %v from %v = %v", x, l, drop)
			}
		}
	})
}

// anyLists calls do for each list of up to four elements with names of a, b and c.
func anyLists(do func(l []pair)) {
	for length := range 5 {
		count := 1
		for range length {
			count *= 3
		}
		for code := range count {
			var l []pair
			for i := range length {
				l = append(l, pair{string(rune('a' + code%3)), i})
				code /= 3
			}
			do(l)
		}
	}
}

// checkAny holds Find, Put, Drop and Rises of any list against the words of P2.1 to P2.4.
func checkAny(t *testing.T, l []pair, x pair) {
	at := slices.IndexFunc(l, func(p pair) bool { return p.name == x.name })
	if i, found := byName.Find(l, x); i != max(at, 0) || found != (at >= 0) {
		t.Errorf("Find of %v in %v = %d, %t", x, l, i, found)
	}
	wantPut, wantDrop := slices.Clone(l), slices.Clone(l)
	if at >= 0 {
		wantPut[at] = x
		wantDrop = slices.Delete(wantDrop, at, at+1)
	} else {
		greater := slices.IndexFunc(l, func(p pair) bool { return p.name > x.name })
		if greater < 0 {
			greater = len(l)
		}
		wantPut = slices.Insert(wantPut, greater, x)
	}
	put := byName.Put(l, x)
	if !slices.Equal(put, wantPut) {
		t.Errorf("Put of %v in %v = %v", x, l, put)
	}
	if i, found := byName.Find(put, x); !found || put[i] != x {
		t.Errorf("Find of %v in %v = %d, %t", x, put, i, found)
	}
	if got := byName.Drop(l, x); !slices.Equal(got, wantDrop) {
		t.Errorf("Drop of %v from %v = %v", x, l, got)
	}
	sorted := slices.IsSortedFunc(l, byName.Order)
	distinct := len(slices.CompactFunc(slices.Clone(l), func(a, b pair) bool { return a.name == b.name })) == len(l)
	if got := byName.Rises(l); got != (sorted && distinct) {
		t.Errorf("Rises of %v = %t", l, got)
	}
}

// TestAnyList: P2.1 to P2.4, for each list of up to four elements, sorted or not, and names ahead of, among and behind theirs.
func TestAnyList(t *testing.T) {
	anyLists(func(l []pair) {
		for _, name := range []string{"", "a", "aa", "b", "bb", "c", "cc"} {
			checkAny(t, l, pair{name, 9})
		}
	})
}

// TestKeepWrong: R1, Keep doesn't panic where is is nil or panics: an element of which it doesn't return true isn't kept.
func TestKeepWrong(t *testing.T) {
	l := list("a1 b2 c3")
	if got := Keep(l, nil); len(got) != 0 {
		t.Errorf("Keep by nil = %v", got)
	}
	got := Keep(l, func(p pair) bool {
		if p.n == 2 {
			panic("no answer")
		}
		return true
	})
	if !slices.Equal(got, list("a1 c3")) {
		t.Errorf("Keep by one that panics = %v", got)
	}
}

// TestOrderWrong: R1, a Table without an Order, or with one that panics, doesn't panic: no element has x's key, is greater, or precedes another.
func TestOrderWrong(t *testing.T) {
	for _, wrong := range []Table[pair]{
		{},
		{Order: func(a, b pair) int { panic("no answer") }},
	} {
		l := list("b1 c1")
		if i, found := wrong.Find(l, one("b9")); i != 0 || found {
			t.Errorf("Find = %d, %t", i, found)
		}
		if got := wrong.Put(l, one("a9")); !slices.Equal(got, list("b1 c1 a9")) {
			t.Errorf("Put = %v", got)
		}
		if got := wrong.Drop(l, one("b9")); !slices.Equal(got, l) {
			t.Errorf("Drop = %v", got)
		}
		if wrong.Rises(l) || !wrong.Rises(l[:1]) {
			t.Error("Rises")
		}
	}
}
